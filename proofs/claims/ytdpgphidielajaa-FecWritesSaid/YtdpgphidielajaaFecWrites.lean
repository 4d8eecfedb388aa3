/-
  For any part FecWrites returns true: what is wrong with it, and which bytes its section is; nothing that was there is changed. No condition.
-/
import Derived.Test.YtdpgphidielajaaRows
import Derived.Test.YtdpgphidielajaaFeC
import Derived.Test.YtdpgphidielajaaFeD
namespace Go.Proofs.Ytdpgphidielajaa.fecWrites
open Go.ChangeShapes Go.WideShapes Go.ChangeAt Go.RowKit Gf Tm Sct Mpe Fec
set_option maxRecDepth 100000
open Go.ChangeMaps (open_string shut_string)
set_option linter.unusedVariables false
set_option maxHeartbeats 6400000 in
theorem walk (p : Fpt) (w : World) :
    Calls Try.prog 3 #[feV p] w fun e w' => e = .returned (.bool true) ∧ Below w.heap.size w w' := by
  obtain ⟨b, hb⟩ : ∃ b, w.heap.size = b := ⟨_, rfl⟩
  obtain ⟨wA, hA⟩ : ∃ wX, w.alloc (.cells #[.int .i64 p.pad, .int .i64 p.num, .int .i64 p.la, .int .i64 p.tm.dt, .bool p.tm.tb, .bool p.tm.fr, .int .i64 p.tm.ad, .string p.txt] 25) = wX := ⟨_, rfl⟩
  have HA := Lib.hid (show CsAt b (feC p) wA by rw [← hb, ← hA]; exact CsAt.made w #[.int .i64 p.pad, .int .i64 p.num, .int .i64 p.la, .int .i64 p.tm.dt, .bool p.tm.tb, .bool p.tm.fr, .int .i64 p.tm.ad, .string p.txt] _ (by simp))
  have HK0 := Lib.hid (show Keeps w wA by rw [← hA]; exact (Keeps.refl w).alloc _)
  have HA0 := Lib.hid HA.out
  by_cases h : 5000 < p.txt.size
  · obtain ⟨pad, num, la, ⟨dt, tb, fr, ad⟩, txt⟩ := p
    simp only at h hA
    have hi : (5000 : Int) < (txt.size : Int) := by omega
    have q5 := HA.out.cell 7 rfl
    simp only at q5
    go_enter Try.func3, Try.ntmps3
    go_wp2_with (first | (go_at_call 8; refine (awake11_any w _ (HK0.out)).mono ?_; rintro _ w99 ⟨rfl, k99⟩))
    go_ret
    exact ⟨rfl, k99⟩
  · have HPL := Lib.hid (fun W => feplain_any p W)
    have HRC := Lib.hid (fun W => rfecheck_any W p W (Keeps.refl W))
    unfold RfkPost at HRC
    have HEC := Lib.hid (fun W => feencode_any W p W (by omega) (Keeps.refl W))
    unfold FecPost at HEC
    have HCK := Lib.hid (fun W => fecheck_any W p W (by omega) (Keeps.refl W))
    unfold FckPost at HCK
    by_cases hc : ckF p = 0
    · rw [ecF_ok hc] at HEC
      rw [hc] at HRC HCK
      have HBY := Lib.hid (fun W => rfebytes_any W p W hc (Keeps.refl W))
      have HCU := Lib.hid (fun W => fecut_any p W (by obtain ⟨⟨⟨_, h, _⟩, _⟩, _⟩ := ckF_good hc; exact h))
      have hla := (ckF_good hc).1.1.2.1
      have wrc := wrapI (a := 63 - p.la) (by omega) (by omega)
      have HIS := Lib.hid (fun W => feis_any (st (fby p)) W)
      rw [ls_st, isF_fby] at HIS
      have hne := fby_length p
      obtain ⟨Y, hY⟩ : ∃ Y, st (fby p) = Y := ⟨_, rfl⟩
      simp only [hY] at HEC HBY HIS
      clear hc hne hY
      obtain ⟨pad, num, la, ⟨dt, tb, fr, ad⟩, txt⟩ := p
      simp only at h hA wrc HCU hla
      have hi : ¬ (5000 : Int) < (txt.size : Int) := by omega
      have q5 := HA.out.cell 7 rfl
      simp only at q5
      go_enter Try.func3, Try.ntmps3
      go_wp2_with (first | (refine wp_ldF (b := b) (off := 0) HA0.out.r rfl _ rfl rfl ?_) | (refine wp_ldF (b := b) (off := 0) HA1.out.r rfl _ rfl rfl ?_) | (refine wp_ldF (b := b) (off := 0) HA2.out.r rfl _ rfl rfl ?_) | (refine wp_ldF (b := b) (off := 0) HA3.out.r rfl _ rfl rfl ?_) | (refine wp_ldF (b := b) (off := 0) HA4.out.r rfl _ rfl rfl ?_) | (refine wp_ldF (b := b) (off := 0) HA5.out.r rfl _ rfl rfl ?_) | (go_at_call 10; (refine (HPL.out _).mono ?_); rintro _ w1 ⟨rfl, k1⟩; have HA1 := Lib.hid (HA0.out.keeps k1); have HK1 := Lib.hid (HK0.out.trans k1); clear k1) | (go_at_call 9; (refine (HRC.out _).mono ?_); rintro _ w2 ⟨rfl, k2⟩; have HA2 := Lib.hid (HA1.out.keeps k2); have HK2 := Lib.hid (HK1.out.trans k2); clear k2) | (go_at_call 11; (refine (HEC.out _).mono ?_); rintro _ w3 ⟨rfl, k3⟩; have HA3 := Lib.hid (HA2.out.keeps k3); have HK3 := Lib.hid (HK2.out.trans k3); clear k3) | (go_at_call 12; (refine (HCK.out _).mono ?_); rintro _ w4 ⟨rfl, k4⟩; have HA4 := Lib.hid (HA3.out.keeps k4); have HK4 := Lib.hid (HK3.out.trans k4); clear k4) | (go_at_call 10; (refine (HPL.out _).mono ?_); rintro _ w5 ⟨rfl, k5⟩; have HA5 := Lib.hid (HA4.out.keeps k5); have HK5 := Lib.hid (HK4.out.trans k5); clear k5) | (go_at_call 13; (refine (HBY.out _).mono ?_); rintro _ w6 ⟨rfl, k6⟩; have HA6 := Lib.hid (HA5.out.keeps k6); have HK6 := Lib.hid (HK5.out.trans k6); clear k6) | (go_at_call 14; refine (HIS.out _).mono ?_; rintro _ _ ⟨rfl, rfl⟩) | (go_at_call 8; refine (awake11_any w _ (HK6.out)).mono ?_; rintro _ w99 ⟨rfl, k99⟩))
      refine wp_draw (by kernel_rfl) [.string Y, feV ⟨pad, num, la, ⟨dt, tb, fr, ad⟩, txt⟩, feV ⟨pad, num, la, ⟨dt, tb, fr, ad⟩, txt⟩, .string Y, .bool true, .bool true, .string Y, .bool true, .bool true, .bool true, feV ⟨pad, num, la, ⟨dt, tb, fr, ad⟩, txt⟩, .int .i64 (63 - la), .pointer (some ⟨b, 2, none⟩), .int .i64 la, .int .i64 (63 - la), .bool true, .bool true, .bool true, .bool true, .bool true, .bool true]
        (fun _ W => Keeps w4 W) rfl (by kernel_rfl) (fin := ?fin) ?hfin ((Keeps.refl w4).eqv (Eqv.drew w4)) ?each ?hend
      case hfin => simp [seqA, dstOf, Act.put]; rfl
      case each =>
        refine ⟨?_, ?_, ?_, ?_, ?_, ?_, ?_, ?_, ?_, ?_, ?_, ?_, ?_, ?_, ?_, ?_, ?_, ?_, ?_, ?_, ?_, trivial⟩
        all_goals intro X w6 h0 hd hs hw
        all_goals have p0 : w6.cell? ⟨b, 0, none⟩ = some (.int .i64 pad) := (HA4.out.keeps hw).cell 0 rfl
        all_goals have p1 : w6.cell? ⟨b, 1, none⟩ = some (.int .i64 num) := (HA4.out.keeps hw).cell 1 rfl
        all_goals have p2 : w6.cell? ⟨b, 2, none⟩ = some (.int .i64 la) := (HA4.out.keeps hw).cell 2 rfl
        all_goals have p3 : w6.cell? ⟨b, 3, none⟩ = some (.int .i64 dt) := (HA4.out.keeps hw).cell 3 rfl
        all_goals have p4 : w6.cell? ⟨b, 4, none⟩ = some (.bool tb) := (HA4.out.keeps hw).cell 4 rfl
        all_goals have p5 : w6.cell? ⟨b, 5, none⟩ = some (.bool fr) := (HA4.out.keeps hw).cell 5 rfl
        all_goals have p6 : w6.cell? ⟨b, 6, none⟩ = some (.int .i64 ad) := (HA4.out.keeps hw).cell 6 rfl
        all_goals have p7 : w6.cell? ⟨b, 7, none⟩ = some (.string txt) := (HA4.out.keeps hw).cell 7 rfl
        all_goals try rw [if_pos (by rfl)]
        all_goals unfold Does
        all_goals go_simp
        all_goals first | exact fun L' k => hw | ((with_reducible refine (HPL.out w6).mono ?_); rintro e w8 ⟨rfl, k8⟩; exact ⟨_, rfl, rfl, fun _ _ => hw.trans k8⟩) | ((with_reducible refine (HBY.out w6).mono ?_); rintro e w8 ⟨rfl, k8⟩; exact ⟨_, rfl, rfl, fun _ _ => hw.trans k8⟩) | ((with_reducible refine (HCU.out w6).mono ?_); rintro e w8 ⟨rfl, k8⟩; exact ⟨_, rfl, rfl, fun _ _ => hw.trans k8⟩) | ((with_reducible refine (HIS.out w6).mono ?_); rintro e w8 ⟨rfl, rfl⟩; exact ⟨_, rfl, rfl, fun _ _ => hw⟩) | ((with_reducible refine (awake11_any w6 w6 (Keeps.refl w6)).mono ?_); rintro e w8 ⟨rfl, k8⟩; exact ⟨_, rfl, rfl, fun _ _ => hw.trans k8⟩)
      case hend =>
      intro X w9 hL hw
      have HK9 := Lib.hid (HK4.out.trans hw)
      clear hw hL
      go_wp2
      go_ret
      exact ⟨rfl, HK9.out⟩
    · rw [ecF_no hc] at HEC
      obtain ⟨n, hn⟩ : ∃ n, ckF p = n := ⟨_, rfl⟩
      have hnb : (n != 0) = true := by rw [← hn]; simpa using hc
      simp only [hn, show st [] = (⟨#[]⟩ : ByteArray) from rfl] at HRC HCK HEC
      clear hc hn
      obtain ⟨pad, num, la, ⟨dt, tb, fr, ad⟩, txt⟩ := p
      simp only at h hA
      have hi : ¬ (5000 : Int) < (txt.size : Int) := by omega
      have q5 := HA.out.cell 7 rfl
      simp only at q5
      go_enter Try.func3, Try.ntmps3
      go_wp2_with (first | (refine wp_ldF (b := b) (off := 0) HA0.out.r rfl _ rfl rfl ?_) | (refine wp_ldF (b := b) (off := 0) HA1.out.r rfl _ rfl rfl ?_) | (refine wp_ldF (b := b) (off := 0) HA2.out.r rfl _ rfl rfl ?_) | (refine wp_ldF (b := b) (off := 0) HA3.out.r rfl _ rfl rfl ?_) | (refine wp_ldF (b := b) (off := 0) HA4.out.r rfl _ rfl rfl ?_) | (go_at_call 10; (refine (HPL.out _).mono ?_); rintro _ w1 ⟨rfl, k1⟩; have HA1 := Lib.hid (HA0.out.keeps k1); have HK1 := Lib.hid (HK0.out.trans k1); clear k1) | (go_at_call 9; (refine (HRC.out _).mono ?_); rintro _ w2 ⟨rfl, k2⟩; have HA2 := Lib.hid (HA1.out.keeps k2); have HK2 := Lib.hid (HK1.out.trans k2); clear k2) | (go_at_call 11; (refine (HEC.out _).mono ?_); rintro _ w3 ⟨rfl, k3⟩; have HA3 := Lib.hid (HA2.out.keeps k3); have HK3 := Lib.hid (HK2.out.trans k3); clear k3) | (go_at_call 12; (refine (HCK.out _).mono ?_); rintro _ w4 ⟨rfl, k4⟩; have HA4 := Lib.hid (HA3.out.keeps k4); have HK4 := Lib.hid (HK3.out.trans k4); clear k4) | (go_at_call 8; refine (awake11_any w _ (HK4.out)).mono ?_; rintro _ w99 ⟨rfl, k99⟩))
      go_ret
      exact ⟨rfl, k99⟩


theorem own : ownKnob Try.prog.godebug = none := by kernel_rfl
theorem laidOut : laidOutB Try.prog = true := by kernel_rfl
set_option maxRecDepth 100000 in
theorem lifted (os : Os) (started : os.Started) (H : Type) (enc : TypeId × Value → H) :
    ReturnsInHanded {} Try.checked os 3 .any (Rows.fecWritesSpec.pre6 enc Try.prog Try.f3 Rows.fecWritesRow.domain false) (Rows.fecWritesSpec.post enc Try.prog Try.f3 false true false false) := by
  refine returnsInHanded_of_change (C := Try.checked) own started (by kernel_rfl) Try.func3
    (ChangeSpec.witness6 (enc := enc) (C := Try.checked) false ⟨#[], #[.agg #[.int .i64 0, .int .i64 0, .int .i64 0, .int .i64 0, .bool false, .bool false, .int .i64 0, .string ByteArray.empty]], []⟩ 8 (by kernel_rfl) (by kernel_rfl) (by kernel_rfl) (by kernel_rfl)) ?_
  intro W base args ds gs before hval0 hW hcnd _
  have hval : ∀ (j : Nat) t v, Try.f3.params[j]? = some t → args[j]? = some v → Value.okWide Try.prog W .any base t v := hval0
  have hW' := hW
  obtain ⟨p, q, hA0, hV, rfl, hfz, hnd⟩ := hW
  have hA : DataW.TrodAll enc Try.prog W 0 (fun _ => true) true Try.f3.params.toList args.toList ds p := hA0
  rw [Try.params3] at hA hval
  obtain ⟨v0, vs0, d0, ds0, p0, q0, hargs, rfl, rfl, h0, r0⟩ := trodAll_cons hA
  obtain ⟨rfl, rfl, rfl⟩ := trodAll_nil r0
  obtain rfl : args = #[v0] := by cases args; simp_all
  obtain ⟨rfl, rfl⟩ := trodVars_none hV
  have k0 := h0
  have lt0 : ∀ x ∈ p0, x.block < W.heap.size := by obtain ⟨m, hm⟩ := k0; exact DataW.trod_lt m _ _ _ hm
  obtain ⟨P0, rfl⟩ := open_fpt (hval 0 25 v0 rfl rfl) h0
  clear hA0 hval0
  refine (walk P0 W).mono fun e W' ⟨he, bel⟩ => ?_
  subst he
  exact ⟨_, rfl, _, _, _, [], _, [], hW', trodAll_mk1 (shut_bool Try.underlying4 _), (trodAll_cons_mk (Below.trod laidOut (by kernel_rfl) (of_decide_eq_true (by kernel_rfl)) k0 bel lt0) trodAll_mk0), rfl, bel.frame _, fun h => by cases h⟩

theorem over : Rows.fecWritesRow.holds Try.pinned (OpenSpec.ofChange Rows.fecWritesSpec) :=
  OpenClaim.holds_of_wide 3 Try.f3 rfl rfl rfl rfl rfl rfl rfl ⟨rfl, rfl, rfl, rfl, rfl⟩ rfl rfl rfl rfl rfl (by kernel_rfl) Try.func3 (by kernel_rfl)
    (of_decide_eq_true (by kernel_rfl)) (by unfold Func.isWrapper; first | (rw [if_pos (by decide +kernel)]; kernel_rfl) | (rw [if_neg (by decide +kernel)]; exact ⟨rfl, rfl⟩))
    (fun os started H enc _ => lifted os started H enc)

theorem proved : Rows.FecWritesSaid := over
#print axioms proved
end Go.Proofs.Ytdpgphidielajaa.fecWrites
