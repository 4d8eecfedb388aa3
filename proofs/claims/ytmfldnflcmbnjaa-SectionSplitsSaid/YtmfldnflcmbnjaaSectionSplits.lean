/-
  For any three numbers, any string and any sections SectionSplits returns true: which sections a text is, and which text sections are, or why none; nothing that was there is changed. No condition.
-/
import Derived.Test.YtmfldnflcmbnjaaRows
import Derived.Test.YtmfldnflcmbnjaaScArgs
import Derived.Test.YtmfldnflcmbnjaaScH
import Derived.Test.YtmfldnflcmbnjaaScK
import Derived.Test.YtmfldnflcmbnjaaScL
namespace Go.Proofs.Ytmfldnflcmbnjaa.sectionSplits
open Go.ChangeShapes Go.WideShapes Go.ChangeAt Go.RowKit Gf Sct
set_option maxRecDepth 100000
open Go.ChangeMaps (open_string shut_string)
set_option linter.unusedVariables false
set_option maxHeartbeats 3200000 in
theorem off (p q r : Int) (t : ByteArray) (a : Option Addr) (len cap : Nat) (w : World) (h : ¬ t.size ≤ 9000 ∨ (t.size ≤ 9000 ∧ ¬ len ≤ 20)) :
    Calls Try.prog 5 #[.agg #[.int .i64 p, .int .i64 q, .int .i64 r], .string t, .slice a len cap] w fun e w' => e = .returned (.bool true) ∧ Below w.heap.size w w' := by
  have HKX := Lib.hid ((Keeps.refl w).alloc (.cells #[.int .i64 p, .int .i64 q, .int .i64 r] 41))
  rcases h with h | ⟨h, h9⟩
  all_goals
    go_enter Try.func5, Try.ntmps5
    go_wp2_with (go_at_call 10; refine (awake8_any w _ HKX.out).mono ?_; rintro _ w5 ⟨rfl, k5⟩)
    go_ret
    exact ⟨rfl, k5⟩
def ssA (wX : World) (L : List Sec) (i : Value) (wr : World) : Prop := ∃ k : Nat, k ≤ L.length ∧ i = .int .i64 (k : Int) ∧ wr = wX
def ssB (w : World) (N : Nat) (i : Value) (wr : World) : Prop := ∃ k : Nat, k ≤ N ∧ i = .int .i64 (k : Int) ∧ Keeps w wr
set_option maxHeartbeats 12800000 in
theorem core (p q r : Int) (t : ByteArray) (a : Option Addr) (len cap : Nat) (L : List Sec) (w : World) (hI : IsE secT w a len L) (ht : t.size ≤ 9000) (hl : len ≤ 20) :
    Calls Try.prog 5 #[.agg #[.int .i64 p, .int .i64 q, .int .i64 r], .string t, .slice a len cap] w fun e w' => e = .returned (.bool true) ∧ Below w.heap.size w w' := by
  have hkX := (Keeps.refl w).alloc (.cells #[.int .i64 p, .int .i64 q, .int .i64 r] 41)
  obtain ⟨wX, hX⟩ : ∃ wX, w.alloc (.cells #[.int .i64 p, .int .i64 q, .int .i64 r] 41) = wX := ⟨_, rfl⟩
  have b0 : wX.cell? ⟨w.heap.size, 0, none⟩ = some (.int .i64 p) := by rw [← hX, World.cell?_alloc_new]; rfl
  have b1 : wX.cell? ⟨w.heap.size, 1, none⟩ = some (.int .i64 q) := by rw [← hX, World.cell?_alloc_new]; rfl
  have b2 : wX.cell? ⟨w.heap.size, 2, none⟩ = some (.int .i64 r) := by rw [← hX, World.cell?_alloc_new]; rfl
  have hbX : w.heap.size < wX.heap.size := by rw [← hX]; simp
  rw [hX] at hkX
  have HKX := Lib.hid hkX
  have HIX := Lib.hid (hI.keeps hkX)
  have HLL := Lib.hid hI.1
  obtain ⟨⟨SL, e⟩, hsp⟩ : ∃ x, spl p q r (ls t) = x := ⟨_, rfl⟩
  have HS1 := Lib.hid (fun W => scsplit_any W p q r t W (by omega) (Keeps.refl W))
  have HS2 := Lib.hid (fun W => scrsplit_any W p q r t W (by omega) (Keeps.refl W))
  unfold SplPost at HS1 HS2
  simp only [hsp] at HS1 HS2
  obtain ⟨N, hN⟩ : ∃ N, SL.length = N := ⟨_, rfl⟩
  have HN := Lib.hid hN
  have hNb : N ≤ 1000 := by
    rw [← hN, show SL = (spl p q r (ls t)).1 by rw [hsp]]
    unfold spl
    split
    · simp
    · split
      · rw [secs_length]; unfold lastN; rw [← ls_size]; omega
      · simp
  obtain ⟨⟨jl, je⟩, hjn⟩ : ∃ x, jn L = x := ⟨_, rfl⟩
  have HJ1 := Lib.hid (fun W (h : IsE secT W a len L) => scjoin_any W a len cap L W h (by omega) (Keeps.refl W))
  have HJ2 := Lib.hid (fun W a' cap' (h : IsE rsecT W a' len L) => scrjoin_any W a' len cap' L W h (by omega) (Keeps.refl W))
  unfold JnPost at HJ1 HJ2
  simp only [hjn] at HJ1 HJ2
  have HPS := Lib.hid (fun W (h : IsE secT W a len L) => scplains_any a len cap L W h (by omega))
  obtain ⟨J, hJ⟩ : ∃ J, st jl = J := ⟨_, rfl⟩
  simp only [hJ] at HJ1 HJ2
  clear hI hkX hsp hN hjn hJ
  go_enter Try.func5, Try.ntmps5
  go_wp2
  go_loopw [7] (fun i wr => ssA wX L i wr) (fun i _ => len - (intOf i).toNat)
  case atStart => exact ⟨0, by omega, rfl, rfl⟩
  case round =>
    obtain ⟨k, hk, rfl, rfl⟩ := hrel
    rw [← HLL.out] at hk
    by_cases hlt : k < len
    · obtain ⟨b, off, rfl, hR⟩ := row_of (T := secT) rfl (fun _ => rfl) HIX.out (by omega)
      have hkI : (k : Int) < (len : Int) := by omega
      obtain ⟨x, hx⟩ : ∃ x, L.getD k zs = x := ⟨_, rfl⟩
      have hrk := hR.row k hlt
      rw [hx] at hrk
      obtain ⟨g0, g1, g2, g3, g4, g5, g6, g7⟩ := range_cells hrk
      have HFW := Lib.hid (fun W => scfew_any x.body W)
      obtain ⟨f, hf⟩ : ∃ f, fewB x.body = f := ⟨_, rfl⟩
      simp only [hf] at HFW
      clear hR hx hrk hf g0 g1 g2 g3 g4 g5 g6
      obtain ⟨tb, pv, ex, ver, nw, num, la, S⟩ := x
      simp only at g7 HFW
      cases f
      · go_wp2_with (first | (go_at_call 9; refine (HFW.out _).mono ?_; rintro _ _ ⟨rfl, rfl⟩) | (go_at_call 10; refine (awake8_any w _ HKX.out).mono ?_; rintro _ w5 ⟨rfl, k5⟩))
        go_ret
        exact ⟨rfl, k5⟩
      · go_wp2_with (first | (go_at_call 9; refine (HFW.out _).mono ?_; rintro _ _ ⟨rfl, rfl⟩))
        go_roundw
        case rel => exact ⟨k + 1, by rw [← HLL.out]; omega, by go_num, rfl⟩
        case measure => simp [intOf]; omega
    · have hkI : ¬ (k : Int) < (len : Int) := by omega
      clear hlt hk
      go_wp2_with (first | (go_at_call 20; refine (HS1.out _).mono ?_; rintro _ w1 ⟨v1, rfl, own1, k1⟩; obtain ⟨a1, c1, rfl, is1, _⟩ := own1.is; rw [HN.out] at is1 ⊢; have HI1 := Lib.hid is1; have HK1 := Lib.hid k1; have b0 := (Below.cell k1 (p := ⟨w.heap.size, 0, none⟩) hbX).trans b0; have b1 := (Below.cell k1 (p := ⟨w.heap.size, 1, none⟩) hbX).trans b1; have b2 := (Below.cell k1 (p := ⟨w.heap.size, 2, none⟩) hbX).trans b2; clear own1 is1 k1) | (go_at_call 21; refine (HS2.out _).mono ?_; rintro _ w2 ⟨v2, rfl, own2, k2⟩; obtain ⟨a2, c2, rfl, is2, _⟩ := own2.is; rw [HN.out] at is2 ⊢; have HI2 := Lib.hid is2; have HJI := Lib.hid (HI1.out.keeps k2); have HK2 := Lib.hid (Keeps.trans HK1.out k2); clear own2 is2 k2 HI1 HK1))
      clear b0 b1 b2
      go_loopw [12] (fun i wr => ssB w2 N i wr) (fun i _ => N - (intOf i).toNat)
      case atStart => exact ⟨0, by omega, rfl, Keeps.refl w2⟩
      case round =>
        obtain ⟨k, hk, rfl, hkw⟩ := hrel
        have HKW := Lib.hid hkw
        clear hkw
        by_cases hlt : k < N
        · have hkI : (k : Int) < (N : Int) := by omega
          obtain ⟨d1, o1, rfl, hR1⟩ := row_of (T := secT) rfl (fun _ => rfl) HJI.out (by omega)
          obtain ⟨d2, o2, rfl, hR2⟩ := row_of (T := rsecT) rfl (fun _ => rfl) HI2.out (by omega)
          obtain ⟨x, hx⟩ : ∃ x, SL.getD k zs = x := ⟨_, rfl⟩
          have hr1 := (hR1.keeps HKW.out).row k hlt
          have hr2 := (hR2.keeps HKW.out).row k hlt
          have hd1 := (hR1.keeps HKW.out).old
          have hd2 := (hR2.keeps HKW.out).old
          rw [hx] at hr1 hr2
          have HPL := Lib.hid (fun W => scplain_any W x W (Keeps.refl W))
          unfold SecPost at HPL
          have hNE : ∀ W, (binOp .neq 28 (secV x) (secV x)).run Try.prog W = .ok (.bool false) W := fun W => by rw [neR, sameB_iff.2 rfl]; rfl
          have hgd := egR
          clear hx hR1 hR2
          obtain ⟨tb, pv, ex, ver, nw, num, la, S⟩ := x
          go_wp2
          refine wp_draw (by kernel_rfl)
            [.slice (some ⟨d1, o1, none⟩) N c1, .int .i64 (k : Int), .pointer (some ⟨d1, o1 + k * 8, none⟩), secV ⟨tb, pv, ex, ver, nw, num, la, S⟩, secV ⟨tb, pv, ex, ver, nw, num, la, S⟩, .slice (some ⟨d2, o2, none⟩) N c2, .int .i64 (k : Int), .pointer (some ⟨d2, o2 + k * 8, none⟩), secV ⟨tb, pv, ex, ver, nw, num, la, S⟩, .bool false]
            (fun _ W => Keeps wr W)
            rfl (by kernel_rfl) (fin := ?fin) ?hfin ((Keeps.refl wr).eqv (Eqv.drew wr)) ?each ?hend
          case hfin => simp [seqA, dstOf, Act.put]; rfl
          case each =>
            refine ⟨?_, ?_, ?_, ?_, ?_, ?_, ?_, ?_, ?_, ?_, trivial⟩
            all_goals intro X w6 h0 hd hs hw
            all_goals unfold Does
            all_goals obtain ⟨q0, q1, q2, q3, q4, q5, q6, q7⟩ := range_cells (rng_keeps hr1 hd1 hw)
            all_goals obtain ⟨p0, p1, p2, p3, p4, p5, p6, p7⟩ := range_cells (rng_keeps hr2 hd2 hw)
            all_goals go_simp
            all_goals first
              | exact fun L' k => hw
              | ((with_reducible refine (HPL.out w6).mono ?_); rintro e' w8 ⟨rfl, k8⟩; exact ⟨_, rfl, rfl, fun _ _ => hw.trans k8⟩)
          case hend =>
          intro X w6 hL hw
          have HKE := Lib.hid (HKW.out.trans hw)
          clear hw hL hr1 hr2 hd1 hd2
          go_wp2
          go_roundw
          case rel => exact ⟨k + 1, by omega, by go_num, HKE.out⟩
          case measure => simp [intOf]; omega
        · have hkI2 : ¬ (k : Int) < (N : Int) := by omega
          have HKS := Lib.hid (Keeps.trans HK2.out HKW.out)
          have HIS := Lib.hid (HIX.out.keeps HKS.out)
          clear hlt hk HKW HK2 HI2 HJI
          go_wp2_with (first | (go_at_call 22; refine (HJ1.out _ HIS.out).mono ?_; rintro _ w3 ⟨rfl, k3⟩; have HK3 := Lib.hid (Keeps.trans HKS.out k3); clear k3) | (go_at_call 24; refine (HPS.out _ (HIX.out.keeps HK3.out)).mono ?_; rintro _ w4 ⟨v4, rfl, own4, k4⟩; obtain ⟨a4, c4, rfl, is4, _⟩ := own4.is; rw [← HLL.out] at is4 ⊢; have HI4 := Lib.hid is4; have HK4 := Lib.hid (Keeps.trans HK3.out k4); clear own4 is4 k4) | (go_at_call 23; refine (HJ2.out _ a4 c4 HI4.out).mono ?_; rintro _ w6 ⟨rfl, k6⟩; have HK6 := Lib.hid (Keeps.trans HK4.out k6); clear k6) | (go_at_call 10; refine (awake8_any w _ (HKX.out.trans HK6.out)).mono ?_; rintro _ w5 ⟨rfl, k5⟩))
          go_ret
          exact ⟨rfl, k5⟩
theorem walk (three : List Int) (h3 : three.length = 3) (hw : ∀ x ∈ three, (Lit.int .i64 x).wf = true) (t : ByteArray) (ht : t.size ≤ maxLen) (a : Option Addr) (len cap : Nat) (L : List Sec) (w : World) (hI : IsE secT w a len L ∧ len ≤ cap) :
    Calls Try.prog 5 #[.agg (three.map (.int .i64)).toArray, .string t, .slice a len cap] w fun e w' => e = .returned (.bool true) ∧ Below w.heap.size w w' := by
  match three, h3 with
  | [p, q, r], _ =>
    by_cases h1 : t.size ≤ 9000
    · by_cases h2 : len ≤ 20
      · exact core p q r t a len cap L w hI.1 h1 h2
      · exact off p q r t a len cap w (.inr ⟨h1, h2⟩)
    · exact off p q r t a len cap w (.inl h1)


theorem own : ownKnob Try.prog.godebug = none := by kernel_rfl
theorem laidOut : laidOutB Try.prog = true := by kernel_rfl
set_option maxRecDepth 100000 in
theorem lifted (os : Os) (started : os.Started) (H : Type) (enc : TypeId × Value → H) :
    ReturnsInHanded {} Try.checked os 5 .any (Rows.sectionSplitsSpec.pre6 enc Try.prog Try.f5 Rows.sectionSplitsRow.domain false) (Rows.sectionSplitsSpec.post enc Try.prog Try.f5 false true false false) := by
  refine returnsInHanded_of_change (C := Try.checked) own started (by kernel_rfl) Try.func5
    (ChangeSpec.witness6 (enc := enc) (C := Try.checked) false ⟨#[], #[.agg #[.int .i64 0, .int .i64 0, .int .i64 0], .string ByteArray.empty, .slice none 0 0], []⟩ 8 (by kernel_rfl) (by kernel_rfl) (by kernel_rfl) (by kernel_rfl)) ?_
  intro W base args ds gs before hval0 hW hcnd _
  have hval : ∀ (j : Nat) t v, Try.f5.params[j]? = some t → args[j]? = some v → Value.okWide Try.prog W .any base t v := hval0
  have hW' := hW
  obtain ⟨p, q, hA0, hV, rfl, hfz, hnd⟩ := hW
  have hA : DataW.TrodAll enc Try.prog W 0 (fun _ => true) true Try.f5.params.toList args.toList ds p := hA0
  rw [Try.params5] at hA hval
  obtain ⟨v0, vs0, d0, ds0, p0, q0, hargs, rfl, rfl, h0, r0⟩ := trodAll_cons hA
  obtain ⟨v1, vs1, d1, ds1, p1, q1, rfl, rfl, rfl, h1, r1⟩ := trodAll_cons r0
  obtain ⟨v2, vs2, d2, ds2, p2, q2, rfl, rfl, rfl, h2, r2⟩ := trodAll_cons r1
  obtain ⟨rfl, rfl, rfl⟩ := trodAll_nil r2
  obtain rfl : args = #[v0, v1, v2] := by cases args; simp_all
  obtain ⟨rfl, rfl⟩ := trodVars_none hV
  have k0 := h0
  have lt0 : ∀ x ∈ p0, x.block < W.heap.size := by obtain ⟨m, hm⟩ := k0; exact DataW.trod_lt m _ _ _ hm
  obtain ⟨x0, n0, rfl, wx0⟩ := open_arr Try.underlying41 Try.underlying3 (by kernel_rfl) (by kernel_rfl) (hval 0 41 v0 rfl rfl) h0
  obtain ⟨a1, rfl, rfl, rfl, w1⟩ := open_string Try.underlying9 (hval 1 9 v1 rfl rfl) h1
  obtain ⟨a2, len2, cap2, rfl⟩ := okWide_slice Try.underlying42 (hval 2 42 v2 rfl rfl)
  have k2 := h2
  have lt2 : ∀ x ∈ p2, x.block < W.heap.size := by obtain ⟨m, hm⟩ := k2; exact DataW.trod_lt m _ _ _ hm
  obtain ⟨z2, w2⟩ := open_secrow h2
  clear hA0 hval0
  refine (walk x0 n0 wx0 a1 w1 a2 len2 cap2 z2 W w2).mono fun e W' ⟨he, bel⟩ => ?_
  subst he
  exact ⟨_, rfl, _, _, _, [], _, [], hW', trodAll_mk1 (shut_bool Try.underlying4 _), (trodAll_cons_mk (Below.trod laidOut (by kernel_rfl) (of_decide_eq_true (by kernel_rfl)) k0 bel lt0) (trodAll_cons_mk (shut_string Try.underlying9 w1) (trodAll_cons_mk (Below.trod laidOut (by kernel_rfl) (of_decide_eq_true (by kernel_rfl)) k2 bel lt2) trodAll_mk0))), rfl, bel.frame _, fun h => by cases h⟩

theorem over : Rows.sectionSplitsRow.holds Try.pinned (OpenSpec.ofChange Rows.sectionSplitsSpec) :=
  OpenClaim.holds_of_wide 5 Try.f5 rfl rfl rfl rfl rfl rfl rfl ⟨rfl, rfl, rfl, rfl, rfl⟩ rfl rfl rfl rfl rfl (by kernel_rfl) Try.func5 (by kernel_rfl)
    (of_decide_eq_true (by kernel_rfl)) (by unfold Func.isWrapper; first | (rw [if_pos (by decide +kernel)]; kernel_rfl) | (rw [if_neg (by decide +kernel)]; exact ⟨rfl, rfl⟩))
    (fun os started H enc _ => lifted os started H enc)

theorem proved : Rows.SectionSplitsSaid := over
#print axioms proved
end Go.Proofs.Ytmfldnflcmbnjaa.sectionSplits
