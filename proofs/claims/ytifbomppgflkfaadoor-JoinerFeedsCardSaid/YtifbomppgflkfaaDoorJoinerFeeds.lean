/-
  For any number of a stream and any packets JoinerFeeds returns true: what each packet answers, and what is held, and how often something was missing; nothing that was there is changed. The table of widths of package packet starts as the program lays it.
-/
import Derived.SevenTiedAt
import Derived.Test.YtifbomppgflkfaaDoorRows
import Derived.Test.YtifbomppgflkfaaDoorCards
import Derived.Test.YtifbomppgflkfaaDoorTie
import Derived.Test.YtifbomppgflkfaaDoorPkLaid
import Derived.Test.YtifbomppgflkfaaDoorJnImp
import Derived.Test.YtifbomppgflkfaaDoorJnLaw
import Derived.Test.YtifbomppgflkfaaDoorJnB
import Derived.Test.YtifbomppgflkfaaDoorJnC
import Derived.Test.YtifbomppgflkfaaDoorPkArgs
namespace Go.Proofs.YtifbomppgflkfaaDoor.joinerFeeds
open Go.ChangeShapes Go.WideShapes Go.ChangeAt Go.RowKit Gf Pk Jn
set_option maxRecDepth 100000
open Go.ChangeMaps (open_string shut_string)
set_option linter.unusedVariables false
/-- A joiner behind packets. -/
def feeds (pid : Int) (l : List Pkt) : JS := l.foldl (fun J q => (Jn.feed pid J q).1) js0
theorem feeds_next (pid : Int) {l : List Pkt} {k : Nat} (h : k < l.length) : feeds pid (l.take (k + 1)) = (Jn.feed pid (feeds pid (l.take k)) l[k]).1 := by
  unfold feeds
  rw [List.take_add_one, List.getElem?_eq_getElem h, List.foldl_append]; rfl
theorem feeds_ok (pid : Int) (l : List Pkt) : ∀ k, k ≤ l.length → (feeds pid (l.take k)).hold.length < 4096 ∧ 0 ≤ (feeds pid (l.take k)).lost ∧ (feeds pid (l.take k)).lost ≤ (k : Int)
  | 0, _ => by rw [List.take_zero]; exact ⟨show js0.hold.length < 4096 by decide, Int.le_refl _, Int.le_refl _⟩
  | k + 1, h => by
    obtain ⟨h1, h2, h3⟩ := feeds_ok pid l k (by omega)
    rw [feeds_next pid (show k < l.length by omega)]
    have g1 := feed_hold (pid := pid) l[k] h1
    have g2 := feed_lost (pid := pid) (J := feeds pid (l.take k)) l[k]
    exact ⟨g1, by omega, by omega⟩
theorem pk_range {W : World} {a : Option Addr} {len : Nat} {l : List Pkt} (h : IsE pktT W a len l) {i : Nat} (hi : i < l.length) : ∃ b off, a = some ⟨b, off, none⟩ ∧ ∀ W', Keeps W W' → W'.rangeAt b (off + i * 5) (pkC l[i]) := by
  obtain ⟨b, off, ha, hb, hc⟩ := h.get hi
  exact ⟨b, off, ha, fun W' k j v hj => by rw [Nat.add_assoc]; exact (Below.cell k (p := ⟨b, off + (i * 5 + j), none⟩) hb).trans (hc j v hj)⟩
def jfRel (A : JnApi) (w : World) (pid : Int) (l : List Pkt) (p rb : Nat) (i : Value) (wr : World) : Prop :=
  ∃ (k : Nat) (S : Nat → Prop), k ≤ l.length ∧ i = .int .i64 (k : Int) ∧ A.At S p pid (feeds pid (l.take k)) wr ∧ RjAt rb pid (feeds pid (l.take k)) wr ∧ (∀ x, S x → w.heap.size ≤ x ∧ x ≠ rb) ∧ Keeps w wr
set_option maxHeartbeats 12800000 in
theorem core (A : JnApi) (pid : Int) (a : Option Addr) (len cap : Nat) (l : List Pkt) (w : World) (hI : IsE pktT w a len l) (hlm : len ≤ maxLen) (hO : A.Ok w) :
    Calls Tryd.prog 3 #[.int .i64 pid, .slice a len cap] w fun e w' => e = .returned (.bool true) ∧ Below w.heap.size w w' := by
  have HW := Lib.hid (fun W (k : Keeps w W) => awake16_any A W W (Keeps.refl W) (A.okK hO k))
  have HOK := Lib.hid (fun W (k : Keeps w W) => A.okK hO k)
  have AW : ∀ e w', e = Ending.returned (Value.bool true) ∧ Keeps w w' → e = Ending.returned (Value.bool true) ∧ Below w.heap.size w w' := fun _ _ h => h
  by_cases hp : 0 ≤ pid ∧ pid ≤ 8190
  · have HN := Lib.hid (A.newOk pid w hp)
    obtain ⟨p1, p2⟩ := hp
    have q1 : ¬ pid < 0 := by omega
    have q2 : ¬ 8190 < pid := by omega
    by_cases h60 : 60 < len
    · have hi : (60 : Int) < (len : Int) := by omega
      go_enter Tryd.func3, Tryd.ntmps3
      go_wp2_with (first | (go_at_call 8; refine HN.out.mono ?_; rintro _ w1 ⟨p, S, rfl, a1, k1, s1⟩; have HK := Lib.hid (show Keeps w w1 from k1); clear a1 k1 s1) | (go_at_call 9; refine (HW.out _ HK.out).mono ?_; rintro _ w9 ⟨rfl, k9⟩; have HK := Lib.hid (HK.out.trans k9); clear k9))
      go_ret
      exact ⟨rfl, HK.out⟩
    have hi : ¬ (60 : Int) < (len : Int) := by omega
    have HI := Lib.hid hI
    have HL := Lib.hid hI.1
    have h60' : len ≤ 60 := by omega
    clear hI hlm h60
    go_enter Tryd.func3, Tryd.ntmps3
    go_wp2_with (go_at_call 8; refine HN.out.mono ?_; rintro _ w1 ⟨p, S0, rfl, a1, k1, s1⟩; have HA1 := Lib.hid a1; have HK1 := Lib.hid (show Keeps w w1 from k1); have HS1 := Lib.hid s1; clear a1 k1 s1)
    have HR := Lib.hid (CsAt.made w1 #[.int .i64 pid, .string ⟨#[]⟩, .bool false, .bool false, .int .i64 0, .string ⟨#[]⟩, .int .i64 0] 30 (by simp))
    have HKR := Lib.hid ((Keeps.refl w1).alloc (.cells #[.int .i64 pid, .string ⟨#[]⟩, .bool false, .bool false, .int .i64 0, .string ⟨#[]⟩, .int .i64 0] 30))
    obtain ⟨rb, hrb⟩ : ∃ rb, w1.heap.size = rb := ⟨_, rfl⟩
    rw [hrb] at HR
    have HRB := Lib.hid hrb
    obtain ⟨w2, hw2⟩ : ∃ w2, w1.alloc (.cells #[.int .i64 pid, .string ⟨#[]⟩, .bool false, .bool false, .int .i64 0, .string ⟨#[]⟩, .int .i64 0] 30) = w2 := ⟨_, rfl⟩
    rw [hw2] at HR HKR ⊢
    rw [hrb]
    clear hw2 hrb
    go_loopw [8] (fun i wr => jfRel A w pid l p rb i wr) (fun i _ => len - (intOf i).toNat)
    case atStart => exact ⟨0, S0, Nat.zero_le _, rfl, by rw [List.take_zero]; exact A.foot HA1.out (HKR.out.foot (fun _ => False)) (fun _ _ x => x), by rw [List.take_zero]; exact ⟨false, 0, ⟨#[]⟩, HR.out, .inl ⟨rfl, rfl⟩⟩, fun x hx => ⟨HS1.out x hx, fun e => by have h7 := A.old HA1.out x hx; rw [HRB.out, e] at h7; exact absurd h7 (Nat.lt_irrefl _)⟩, HK1.out.trans HKR.out⟩
    case round =>
      obtain ⟨k, S, hk, rfl, hA, hR, hS, hkp⟩ := hrel
      obtain ⟨j1, j2, j3⟩ := feeds_ok pid l k hk
      have HLE := Lib.hid (show k ≤ 60 by have := HL.out; omega)
      have HKW := Lib.hid hkp
      have HRO := Lib.hid hR.old
      by_cases hlt : k < len
      · have hlI : (k : Int) < (len : Int) := by omega
        have hkl : k < l.length := by rw [← HL.out]; exact hlt
        obtain ⟨b1, off1, rfl, hrg⟩ := pk_range HI.out hkl
        have HNX := Lib.hid (feeds_next pid hkl)
        obtain ⟨J, hJ⟩ : ∃ J, feeds pid (l.take k) = J := ⟨_, rfl⟩
        rw [hJ] at hA hR j1 j2 j3 HNX
        obtain ⟨⟨pi, start, count, bad, body⟩, hP⟩ : ∃ P, l[k] = P := ⟨_, rfl⟩
        rw [hP] at hrg HNX
        have HLD := Lib.hid hrg
        have q4 : wr.cell? ⟨b1, off1 + k * 5 + 4, none⟩ = some (.string body) := hrg wr hkp 4 _ rfl
        have wr3 := wrapI (a := (k : Int) + 1) (by omega) (by omega)
        by_cases hz : 300 < body.size
        · have hi : (300 : Int) < (body.size : Int) := by omega
          have HK := HKW
          clear hJ hP hrg hkl hA hR hS hkp j1 j2 j3 hz hk wr3
          go_wp2_with (first | (refine wp_ldP (b := b1) (off := off1 + k * 5) (HLD.out _ HK.out) rfl _ rfl rfl ?_) | (go_at_call 9; refine (HW.out _ HK.out).mono ?_; rintro _ w9 ⟨rfl, k9⟩; have HK := Lib.hid (HK.out.trans k9); clear k9))
          go_ret
          exact ⟨rfl, HK.out⟩
        · have hi : ¬ (300 : Int) < (body.size : Int) := by omega
          have HPL := Lib.hid (fun W => pkplain_any ⟨pi, start, count, bad, body⟩ W)
          have HF := Lib.hid (A.feed ⟨pi, start, count, bad, body⟩ hA (HOK.out _ hkp) (show body.size ≤ 1000 by omega) (by omega) ⟨j2, by omega⟩)
          have HRF := Lib.hid (fun (W : World) (H : RjAt rb pid J W) => rjfeed_any H ⟨pi, start, count, bad, body⟩ (by omega) (show body.size ≤ 1000 by omega) ⟨j2, by omega⟩)
          obtain ⟨⟨J2, out, e2⟩, hQ⟩ : ∃ Q, Jn.feed pid J ⟨pi, start, count, bad, body⟩ = Q := ⟨_, rfl⟩
          unfold JnGoes at HF
          unfold RjPost at HRF
          have HOZ := Lib.hid (feed_outs (pid := pid) (J := J) ⟨pi, start, count, bad, body⟩)
          rw [hQ] at HF HRF HNX HOZ
          dsimp only at HF HRF HNX HOZ
          replace HOZ := Lib.hid (show out.length ≤ 1000000000 by have := HOZ.out; omega)
          have HR := Lib.hid hR
          have HS := Lib.hid hS
          have HK := HKW
          clear hJ hP hrg hkl hA hR hS hkp j1 j2 j3 hz hk hQ
          go_wp2_with (first | (refine wp_ldP (b := b1) (off := off1 + k * 5) (HLD.out _ HK.out) rfl _ rfl rfl ?_) | (go_at_call 10; refine HF.out.mono ?_; rintro _ w3 ⟨a1, cap1, S1, rfl, t1, tc1, at1, f1, g1, x1⟩; have HT1 := Lib.hid t1; have HA3 := Lib.hid at1; have HF1 := Lib.hid f1; have HG1 := Lib.hid g1; have HX1 := Lib.hid x1; have HK := Lib.hid (f1.keeps HKW.out (fun x hx => (HS.out x hx).1)); have HR3 := Lib.hid (HR.out.block (f1.block rb HRO.out (fun y => (HS.out rb y).2 rfl))); clear t1 tc1 at1 f1 g1 x1) | (go_at_call 12; refine (HPL.out _).mono ?_; rintro _ w4 ⟨rfl, k4⟩; have HK4 := Lib.hid (HK.out.trans k4); have HR4 := Lib.hid (HR3.out.keeps k4); have HQ4 := Lib.hid k4; clear k4) | (go_at_call 11; refine (HRF.out _ HR4.out).mono ?_; rintro _ w5 ⟨v, rfl, o5, r5, q5⟩; obtain ⟨a2, cap2, rfl, t2, tc2⟩ := o5.is; have HT2 := Lib.hid t2.texts; have HR5 := Lib.hid r5; have HO5 := Lib.hid q5; clear t2 tc2 o5 r5 q5))
          have HRB2 := Lib.hid (show w.heap.size ≤ rb by rw [← HRB.out]; exact Below.size HK1.out)
          have F35 := Lib.hid (((Keeps.foot HQ4.out (fun x => x = rb))).same (Only.foot (S := fun x => x = rb) HO5.out rfl))
          have HT3 := Lib.hid (HT1.out.foot F35.out (fun x hx (e : x.block = rb) => by have := (HX1.out x hx).2; have := HRO.out; omega))
          have HX3 := Lib.hid (show ∀ x, S1 x → w.heap.size ≤ x ∧ x ≠ rb from fun x hx => by
            have h2 := Below.size HKW.out
            have h3 := HRO.out
            rcases HG1.out x hx with y | y
            · exact HS.out x y
            · exact ⟨by omega, by omega⟩)
          have HA5 := Lib.hid (A.foot HA3.out F35.out (fun x hx (e : x = rb) => (HX3.out x hx).2 e))
          have HK5 := Lib.hid (show Keeps w w5 from (Only.foot (S := fun x => x = rb) HO5.out rfl).keeps HK4.out (fun x (e : x = rb) => by rw [e]; exact HRB2.out))
          have HTX := Lib.hid (fun W (q : Keeps w5 W) => show Calls Tryd.prog 13 #[.slice a1 out.length cap1, .slice a2 out.length cap2] W fun e w' => e = .returned (.bool true) ∧ Eqv W w' by
            have h7 := jntexts_any (cap := cap1) (cap' := cap2) W (HT3.out.foot (q.foot (fun _ => False)) (fun _ _ y => y)) (HT2.out.foot (q.foot (fun _ => False)) (fun _ _ y => y)) HOZ.out
            rw [decide_eq_true (rfl : out = out)] at h7; exact h7)
          have HHE := Lib.hid (fun W (q : Keeps w5 W) => A.held (A.foot HA5.out (q.foot (fun _ => False)) (fun _ _ y => y)))
          have HLO := Lib.hid (fun W (q : Keeps w5 W) => A.lost (A.foot HA5.out (q.foot (fun _ => False)) (fun _ _ y => y)))
          obtain ⟨Hs, hHs⟩ : ∃ Hs, st J2.hold = Hs := ⟨_, rfl⟩
          obtain ⟨Lo, hLo⟩ : ∃ Lo, J2.lost = Lo := ⟨_, rfl⟩
          have HC := Lib.hid (show (∀ W, Keeps w5 W → W.cell? ⟨rb, 1, none⟩ = some (.string Hs)) ∧ (∀ W, Keeps w5 W → W.cell? ⟨rb, 6, none⟩ = some (.int .i64 Lo)) by
            obtain ⟨sn, ct, bd, hc5, _⟩ := HR5.out
            rw [← hHs, ← hLo]
            exact ⟨fun W q => (hc5.keeps q).cell 1 rfl, fun W q => (hc5.keeps q).cell 6 rfl⟩)
          rw [hHs] at HHE
          rw [hLo] at HLO
          clear hHs hLo
          refine wp_draw (by kernel_rfl) [.int .i64 e2, .int .i64 e2, .bool false, .bool false, .slice a1 out.length cap1, .slice a2 out.length cap2, .bool true, .bool false, .bool false, .bool false, .pointer (some ⟨p, 0, none⟩), .string Hs, .pointer (some ⟨rb, 0, none⟩), .pointer (some ⟨rb, 0, none⟩), .pointer (some ⟨rb, 1, none⟩), .string Hs, .bool false, .bool false, .bool false, .pointer (some ⟨p, 0, none⟩), .int .i64 Lo, .pointer (some ⟨rb, 0, none⟩), .pointer (some ⟨rb, 0, none⟩), .pointer (some ⟨rb, 6, none⟩), .int .i64 Lo, .bool false, .bool false]
            (fun _ W => Keeps w5 W) rfl (by kernel_rfl) (fin := ?fin) ?hfin ((Keeps.refl w5).eqv (Eqv.drew w5)) ?each ?hend
          case hfin => simp [seqA, dstOf, Act.put]; rfl
          case each =>
            refine ⟨?_, ?_, ?_, ?_, ?_, ?_, ?_, ?_, ?_, ?_, ?_, ?_, ?_, ?_, ?_, ?_, ?_, ?_, ?_, ?_, ?_, ?_, ?_, ?_, ?_, ?_, ?_, trivial⟩
            all_goals intro Z w6 h0 hd hs hw
            all_goals have c1 : w6.cell? ⟨rb, 1, none⟩ = some (.string Hs) := HC.out.1 w6 hw
            all_goals have c6 : w6.cell? ⟨rb, 6, none⟩ = some (.int .i64 Lo) := HC.out.2 w6 hw
            all_goals first | rw [if_pos (by rfl)] | skip
            all_goals try unfold Does
            all_goals go_simp
            all_goals first | exact fun L' k => hw | ((with_reducible refine (HTX.out w6 hw).mono ?_); rintro e w8 ⟨rfl, k8⟩; exact ⟨_, rfl, rfl, fun _ _ => hw.eqv k8⟩) | ((with_reducible refine (HHE.out w6 hw).mono ?_); rintro e w8 ⟨rfl, k8⟩; exact ⟨_, rfl, rfl, fun _ _ => hw.trans k8⟩) | ((with_reducible refine (HLO.out w6 hw).mono ?_); rintro e w8 ⟨rfl, k8⟩; exact ⟨_, rfl, rfl, fun _ _ => hw.trans k8⟩)
          case hend =>
          intro Z w9 hL hw
          have HR9 := Lib.hid (HR5.out.keeps hw)
          have HA9 := Lib.hid (A.foot HA5.out (hw.foot (fun _ => False)) (fun _ _ y => y))
          have HK9 := Lib.hid (show Keeps w w9 from HK5.out.trans hw)
          have HZ := Lib.hid (show k + 1 ≤ l.length by rw [← HL.out]; exact hlt)
          clear hw hL
          go_wp2
          go_roundw
          case rel => exact ⟨k + 1, S1, HZ.out, by go_num, by rw [HNX.out]; exact HA9.out, by rw [HNX.out]; exact HR9.out, HX3.out, HK9.out⟩
          case measure => simp [intOf]; omega
      · have hlI : ¬ (k : Int) < (len : Int) := by omega
        have HK := HKW
        clear hA hR hS hkp j1 j2 j3 hk
        go_wp2_with (go_at_call 9; refine (HW.out _ HK.out).mono ?_; rintro _ w9 ⟨rfl, k9⟩; have HK := Lib.hid (HK.out.trans k9); clear k9)
        go_ret
        exact ⟨rfl, HK.out⟩
  · have HN := Lib.hid (A.newNo pid w hp)
    by_cases h0 : pid < 0
    · go_enter Tryd.func3, Tryd.ntmps3
      go_wp2_with (first | (go_at_call 8; refine HN.out.mono ?_; rintro _ w1 ⟨rfl, k1⟩; have HK := Lib.hid (show Keeps w w1 from k1); clear k1) | (go_at_call 9; refine (HW.out _ HK.out).mono ?_; rintro _ w9 ⟨rfl, k9⟩; have HK := Lib.hid (HK.out.trans k9); clear k9))
      go_ret
      exact ⟨rfl, HK.out⟩
    · have h1 : 8190 < pid := by omega
      go_enter Tryd.func3, Tryd.ntmps3
      go_wp2_with (first | (go_at_call 8; refine HN.out.mono ?_; rintro _ w1 ⟨rfl, k1⟩; have HK := Lib.hid (show Keeps w w1 from k1); clear k1) | (go_at_call 9; refine (HW.out _ HK.out).mono ?_; rintro _ w9 ⟨rfl, k9⟩; have HK := Lib.hid (HK.out.trans k9); clear k9))
      go_ret
      exact ⟨rfl, HK.out⟩
theorem walk (pid : Int) (hpw : (Lit.int .i64 pid).wf = true) (a : Option Addr) (len cap : Nat) (l : List Pkt) (w : World) (hI0 : IsE pktT w a len l ∧ len ≤ maxLen) (hW : Wd w) :
    Calls Tryd.prog 3 #[.int .i64 pid, .slice a len cap] w fun e w' => e = .returned (.bool true) ∧ Below w.heap.size w w' :=
  core joinerApi pid a len cap l w hI0.1 hI0.2 hW

theorem own : ownKnob Tryd.prog.godebug = none := by kernel_rfl
theorem laidOut : laidOutB Tryd.prog = true := by kernel_rfl
set_option maxRecDepth 100000 in
theorem lifted (os : Os) (started : os.Started) (H : Type) (enc : TypeId × Value → H) :
    ReturnsInHanded {} Tryd.checked os 3 .any (fun w args => (Rows.joinerFeedsSpec.pre enc Tryd.prog Tryd.f3 [] false w args ∧ laidMetH Tryd.prog [("clarion/packet.wide", Rows.laid_clarion_packet_wide)] w) ∧ sizedMet enc Tryd.prog Tryd.f3 (OpenSpec.ofChange Rows.joinerFeedsSpec) false w args) (Rows.joinerFeedsSpec.post enc Tryd.prog Tryd.f3 false true false false) := by
  refine returnsInHanded_of_change_and (C := Tryd.checked) (X := fun w _ => laidMetH Tryd.prog [("clarion/packet.wide", Rows.laid_clarion_packet_wide)] w) (fun _ _ _ hh h => h.of_heap hh) own started (by kernel_rfl) Tryd.func3
    (ChangeSpec.witness_shaped (enc := enc) (C := Tryd.checked) (os := os) (X := fun w _ => laidMetH Tryd.prog [("clarion/packet.wide", Rows.laid_clarion_packet_wide)] w) false (World.doorLaid Tryd.prog 400 os) #[.int .i64 0, .slice none 0 0] 8 rfl (World.shaped_of_RefB (by kernel_rfl) (by kernel_rfl)) (by kernel_rfl) (by kernel_rfl) (by kernel_rfl) (door_met os _)) ?_
  intro W base args ds gs before hval0 hW hcnd _ hL _
  have hval : ∀ (j : Nat) t v, Tryd.f3.params[j]? = some t → args[j]? = some v → Value.okWide Tryd.prog W .any base t v := hval0
  have hW' := hW
  obtain ⟨p, q, hA0, hV, rfl, hfz, hnd⟩ := hW
  have hA : DataW.TrodAll enc Tryd.prog W 0 (fun _ => true) true Tryd.f3.params.toList args.toList ds p := hA0
  rw [Tryd.params3] at hA hval
  obtain ⟨v0, vs0, d0, ds0, p0, q0, hargs, rfl, rfl, h0, r0⟩ := trodAll_cons hA
  obtain ⟨v1, vs1, d1, ds1, p1, q1, rfl, rfl, rfl, h1, r1⟩ := trodAll_cons r0
  obtain ⟨rfl, rfl, rfl⟩ := trodAll_nil r1
  obtain rfl : args = #[v0, v1] := by cases args; simp_all
  obtain ⟨rfl, rfl⟩ := trodVars_none hV
  obtain ⟨a0, rfl, rfl, rfl, w0⟩ := open_int Tryd.underlying3 (hval 0 3 v0 rfl rfl) h0
  obtain ⟨a1, len1, cap1, rfl⟩ := okWide_slice Tryd.underlying22 (hval 1 22 v1 rfl rfl)
  have k1 := h1
  have lt1 : ∀ x ∈ p1, x.block < W.heap.size := by obtain ⟨m, hm⟩ := k1; exact DataW.trod_lt m _ _ _ hm
  obtain ⟨z1, w1⟩ := open_pktrow h1
  clear hA0 hval0
  refine (walk a0 w0 a1 len1 cap1 z1 W w1 (wd_of_laid hL)).mono fun e W' ⟨he, bel⟩ => ?_
  subst he
  exact ⟨_, rfl, _, _, _, [], _, [], hW', trodAll_mk1 (shut_bool Tryd.underlying4 _), (trodAll_cons_mk (shut_int Tryd.underlying3 w0) (trodAll_cons_mk (Below.trod laidOut (by kernel_rfl) (of_decide_eq_true (by kernel_rfl)) k1 bel lt1) trodAll_mk0)), rfl, bel.frame _, fun h => by cases h⟩

theorem over : Rows.joinerFeedsRow.holds Tryd.pinned (OpenSpec.ofChange Rows.joinerFeedsSpec) :=
  OpenClaim.holds_of_wide 3 Tryd.f3 rfl rfl rfl rfl rfl rfl rfl ⟨rfl, rfl, rfl, rfl, rfl⟩ rfl rfl rfl rfl rfl (by kernel_rfl) Tryd.func3 (by kernel_rfl)
    (of_decide_eq_true (by kernel_rfl)) (by unfold Func.isWrapper; first | (rw [if_pos (by decide +kernel)]; kernel_rfl) | (rw [if_neg (by decide +kernel)]; exact ⟨rfl, rfl⟩))
    (fun os started H enc _ => lifted os started H enc)

set_option maxRecDepth 100000 in
theorem proved : Rows.JoinerFeedsCardSaid :=
  Claim7.holds_tied_plain_at .later [] [.data] true (true, _) false over (fun _ h => by cases h) (by kernel_rfl) (fun _ h => by cases h) joinerFeeds_row_tie rfl ⟨rfl, rfl⟩ (by kernel_rfl) rfl
    (fun f fn hf hfn => by
      obtain rfl : f = 3 := Option.some.inj ((show Tryd.prog.funcNamed "clarion/clarionlaw16.JoinerFeeds" = some 3 by kernel_rfl).symm.trans hf) |>.symm
      obtain rfl : fn = Tryd.f3 := (Option.some.inj (Tryd.func3.symm.trans hfn)).symm
      exact ⟨by kernel_rfl, fun j t ht => by
        rw [Tryd.params3] at ht
        have hm : t ∈ [3, 22] := by simpa using Array.mem_of_getElem? ht
        have hall : ([3, 22].all fun u => !Tryd.prog.wantsStandIn u) = true := by kernel_rfl
        exact (show Tryd.prog.wantsStandIn t = false by simpa using List.all_eq_true.1 hall t hm)⟩)
    (by kernel_rfl)
#print axioms proved
end Go.Proofs.YtifbomppgflkfaaDoor.joinerFeeds
