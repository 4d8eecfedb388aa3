/-
  For any bytes PacketFinds returns true: where packets begin in them, and which pieces they are; nothing that was there is changed. The table of widths of package packet starts as the program lays it.
-/
import Derived.SevenTiedAt
import Derived.Test.YtikknojhoejciaaDoorRows
import Derived.Test.YtikknojhoejciaaDoorCards
import Derived.Test.YtikknojhoejciaaDoorTie
import Derived.Test.YtikknojhoejciaaDoorPkLaid
import Derived.Test.YtikknojhoejciaaDoorPkLaw
namespace Go.Proofs.YtikknojhoejciaaDoor.packetFinds
open Go.ChangeShapes Go.WideShapes Go.ChangeAt Go.RowKit Gf Pk
set_option maxRecDepth 100000
open Go.ChangeMaps (open_string shut_string)
set_option linter.unusedVariables false
theorem part_take (s : ByteArray) (i k : Nat) (h : i + k ≤ s.size) : s.extract i (i + k) = st (((ls s).drop i).take k) := by
  rw [← st_ls (s.extract i (i + k)), ls_part, show i + k - i = k by omega]
theorem part_drop (s : ByteArray) (i : Nat) : s.extract i s.size = st ((ls s).drop i) := by
  rw [← st_ls (s.extract i s.size), ls_part]; congr 1; exact List.take_of_length_le (by rw [List.length_drop, ls_size]; omega)
theorem fd_some {l : List UInt8} {a : Nat} (h : fnd l = some a) : fdA l = (a : Int) ∧ fdE l = 0 ∧ fdR l = (a : Int) := by unfold fdA fdE fdR; rw [h]; exact ⟨rfl, rfl, rfl⟩
theorem fd_none {l : List UInt8} (h : fnd l = none) : fdA l = 0 ∧ fdE l = 18 ∧ fdR l = -1 := by unfold fdA fdE fdR; rw [h]; exact ⟨rfl, rfl, rfl⟩
def lpRel (wA : World) (N : Nat) (i : Value) (wr : World) : Prop := ∃ k : Nat, k ≤ N ∧ i = .int .i64 (k : Int) ∧ Eqv wA wr
set_option maxHeartbeats 6400000 in
theorem walk (s : ByteArray) (hlim : s.size ≤ maxLen) (w : World) (hW : Wd w) :
    Calls Tryd.prog 5 #[.string s] w fun e w' => e = .returned (.bool true) ∧ Below w.heap.size w w' := by
  have HW := Lib.hid (fun W (q : Keeps w W) => awake14_any W W (Keeps.refl W) (hW.keeps q))
  have HK := Lib.hid (Keeps.refl w)
  by_cases h : 1500 < s.size
  · have hi : (1500 : Int) < (s.size : Int) := by omega
    go_enter Tryd.func5, Tryd.ntmps5
    go_wp2_with (first | (go_at_call 9; refine (HW.out _ (by first | exact HK.out | exact HK.out.alloc _ | exact (HK.out.alloc _).alloc _)).mono ?_; rintro _ w9 ⟨rfl, k9⟩; have HK := Lib.hid (HK.out.trans k9); clear k9))
    go_ret
    exact ⟨rfl, HK.out⟩
  have hi : ¬ (1500 : Int) < (s.size : Int) := by omega
  have HF := Lib.hid (fun W => pkfind_any s W (by omega))
  have HR := Lib.hid (fun W => rpkfind_any s W (by omega))
  have HC := Lib.hid (fun W => pkcut_any s W (by omega))
  have hN := pcs_length (ls s)
  have HG := Lib.hid (fun i (hh : i < (ls s).length / 188) => pcs_get (ls s) hh)
  rw [← ls_size] at hN HG
  have HT := Lib.hid (fun i (hh : 188 * i + 188 ≤ s.size) => part_take s (188 * i) 188 hh)
  have hrest := part_drop s (188 * (s.size / 188))
  have hrr : st (rst (ls s)) = st ((ls s).drop (188 * (s.size / 188))) := by unfold rst; rw [← ls_size]
  rw [← hrr] at hrest
  obtain ⟨N, hNN⟩ : ∃ N, s.size / 188 = N := ⟨_, rfl⟩
  rw [hNN] at hN HG hrest
  obtain ⟨R, hR⟩ : ∃ R, st (rst (ls s)) = R := ⟨_, rfl⟩
  rw [hR] at hrest
  have hd : (s.size : Int).tdiv 188 = (N : Int) := by rw [Int.tdiv_eq_ediv_of_nonneg (by omega)]; omega
  have hNb : 188 * N ≤ s.size := by omega
  have hNi : 188 * (N : Int) ≤ (s.size : Int) := by omega
  have hNt : (188 * (N : Int)).toNat = 188 * N := by omega
  obtain ⟨L, hL⟩ : ∃ L, pcs (ls s) = L := ⟨_, rfl⟩
  rw [hL] at hN HG
  simp only [hL, hR, hN] at HC
  have HN := Lib.hid hN
  clear hL hR hrr hNN hN
  have main : ∀ x : Option Nat, fnd (ls s) = x → Calls Tryd.prog 5 #[.string s] w fun e w' => e = .returned (.bool true) ∧ Below w.heap.size w w' := by
    intro x hx
    cases x with
    | some a =>
      obtain ⟨h1, h2, h3⟩ := fd_some hx
      rw [h1, h2] at HF
      rw [h3] at HR
      have ha : ¬ (a : Int) < 0 := by omega
      clear h1 h2 h3 hx
      go_enter Tryd.func5, Tryd.ntmps5
      go_wp2_with (first | (go_at_call 19; refine (HF.out _).mono ?_; rintro _ w1 ⟨rfl, k1⟩; have HK := Lib.hid (HK.out.trans k1); clear k1) | (go_at_call 20; refine (HR.out _).mono ?_; rintro _ _ ⟨rfl, rfl⟩) | (go_at_call 21; refine (HC.out _).mono ?_; rintro _ w3 ⟨a3, cap, rfl, hI, hcap, k3⟩; have HK := Lib.hid (HK.out.trans k3); have HI := Lib.hid hI; clear k3 hI))
      obtain ⟨w4, hw4⟩ : ∃ W, w3 = W := ⟨_, rfl⟩
      rw [hw4] at HK HI
      rw [hw4]
      clear hw4
      go_loopw [8] (fun i wr => lpRel w4 N i wr) (fun i _ => N - (intOf i).toNat)
      case atStart => exact ⟨0, Nat.zero_le _, rfl, Eqv.refl _⟩
      case round =>
        obtain ⟨k, hk, rfl, hev⟩ := hrel
        have HEV := Lib.hid hev
        by_cases hlt : k < N
        · have hlI : (k : Int) < (N : Int) := by omega
          obtain ⟨b1, off1, rfl, hc1⟩ := HI.out.get (k := k) (by rw [HN.out]; exact hlt)
          rw [HG.out k hlt] at hc1
          have hx1 := HT.out k (by omega)
          obtain ⟨P, hP⟩ : ∃ P, st (((ls s).drop (188 * k)).take 188) = P := ⟨_, rfl⟩
          rw [hP] at hc1 hx1
          have HC1 := Lib.hid ((hev.cell _).trans hc1)
          have i1 : 188 * (k : Int) ≤ 188 * (k : Int) + 188 := by omega
          have i2 : 188 * (k : Int) + 188 ≤ (s.size : Int) := by omega
          have i5 : (0 : Int) ≤ 188 * (k : Int) := by omega
          have i6 : (0 : Int) ≤ 188 * (k : Int) + 188 := by omega
          have i3 : (188 * (k : Int)).toNat = 188 * k := by omega
          have i4 : (188 * (k : Int) + 188).toNat = 188 * k + 188 := by omega
          have wr1 := wrapI (a := 188 * (k : Int)) (by omega) (by omega)
          have wr2 := wrapI (a := 188 * (k : Int) + 188) (by omega) (by omega)
          have wr3 := wrapI (a := (k : Int) + 1) (by omega) (by omega)
          clear hP hc1 hev
          go_wp2
          refine wp_draw (by kernel_rfl) [.slice (some ⟨b1, off1, none⟩) N cap, .int .i64 (k : Int), .pointer (some ⟨b1, off1 + k, none⟩), .string P, .string s, .int .i64 (k : Int), .int .i64 (188 * (k : Int)), .int .i64 (k : Int), .int .i64 (188 * (k : Int)), .int .i64 (188 * (k : Int) + 188), .string P, .bool false]
            (fun _ W => Eqv wr W) rfl (by kernel_rfl) (fin := ?fin0) ?hfin0 (Eqv.drew wr) ?each0 ?hend0
          case hfin0 => simp [seqA, dstOf, Act.put]; rfl
          case each0 =>
            refine ⟨?_, ?_, ?_, ?_, ?_, ?_, ?_, ?_, ?_, ?_, ?_, ?_, trivial⟩
            all_goals intro X w6 h0 hd hs hw
            all_goals have c1 := (hw.cell _).trans HC1.out
            all_goals unfold Does
            all_goals go_simp
            all_goals first | exact fun L' k => hw
          case hend0 =>
          intro X w6 hL hw
          have HV := Lib.hid (HEV.out.trans hw)
          clear hL hw
          go_wp2
          go_roundw
          case rel => exact ⟨k + 1, by omega, by go_num, HV.out⟩
          case measure => simp [intOf]; omega
        · obtain rfl : k = N := by omega
          have hlI : ¬ (k : Int) < (k : Int) := by omega
          have wr1 := wrapI (a := 188 * (k : Int)) (by omega) (by omega)
          have HKV := Lib.hid (HK.out.eqv HEV.out)
          clear hev
          go_wp2_with (first | (go_at_call 9; refine (HW.out _ (by first | exact HKV.out | exact HKV.out.alloc _ | exact (HKV.out.alloc _).alloc _)).mono ?_; rintro _ w9 ⟨rfl, k9⟩; have HKV := Lib.hid (HKV.out.trans k9); clear k9))
          go_ret
          exact ⟨rfl, HKV.out⟩
    | none =>
      obtain ⟨h1, h2, h3⟩ := fd_none hx
      rw [h1, h2] at HF
      rw [h3] at HR
      clear h1 h2 h3 hx
      go_enter Tryd.func5, Tryd.ntmps5
      go_wp2_with (first | (go_at_call 19; refine (HF.out _).mono ?_; rintro _ w1 ⟨rfl, k1⟩; have HK := Lib.hid (HK.out.trans k1); clear k1) | (go_at_call 20; refine (HR.out _).mono ?_; rintro _ _ ⟨rfl, rfl⟩) | (go_at_call 21; refine (HC.out _).mono ?_; rintro _ w3 ⟨a3, cap, rfl, hI, hcap, k3⟩; have HK := Lib.hid (HK.out.trans k3); have HI := Lib.hid hI; clear k3 hI))
      obtain ⟨w4, hw4⟩ : ∃ W, w3 = W := ⟨_, rfl⟩
      rw [hw4] at HK HI
      rw [hw4]
      clear hw4
      go_loopw [8] (fun i wr => lpRel w4 N i wr) (fun i _ => N - (intOf i).toNat)
      case atStart => exact ⟨0, Nat.zero_le _, rfl, Eqv.refl _⟩
      case round =>
        obtain ⟨k, hk, rfl, hev⟩ := hrel
        have HEV := Lib.hid hev
        by_cases hlt : k < N
        · have hlI : (k : Int) < (N : Int) := by omega
          obtain ⟨b1, off1, rfl, hc1⟩ := HI.out.get (k := k) (by rw [HN.out]; exact hlt)
          rw [HG.out k hlt] at hc1
          have hx1 := HT.out k (by omega)
          obtain ⟨P, hP⟩ : ∃ P, st (((ls s).drop (188 * k)).take 188) = P := ⟨_, rfl⟩
          rw [hP] at hc1 hx1
          have HC1 := Lib.hid ((hev.cell _).trans hc1)
          have i1 : 188 * (k : Int) ≤ 188 * (k : Int) + 188 := by omega
          have i2 : 188 * (k : Int) + 188 ≤ (s.size : Int) := by omega
          have i5 : (0 : Int) ≤ 188 * (k : Int) := by omega
          have i6 : (0 : Int) ≤ 188 * (k : Int) + 188 := by omega
          have i3 : (188 * (k : Int)).toNat = 188 * k := by omega
          have i4 : (188 * (k : Int) + 188).toNat = 188 * k + 188 := by omega
          have wr1 := wrapI (a := 188 * (k : Int)) (by omega) (by omega)
          have wr2 := wrapI (a := 188 * (k : Int) + 188) (by omega) (by omega)
          have wr3 := wrapI (a := (k : Int) + 1) (by omega) (by omega)
          clear hP hc1 hev
          go_wp2
          refine wp_draw (by kernel_rfl) [.slice (some ⟨b1, off1, none⟩) N cap, .int .i64 (k : Int), .pointer (some ⟨b1, off1 + k, none⟩), .string P, .string s, .int .i64 (k : Int), .int .i64 (188 * (k : Int)), .int .i64 (k : Int), .int .i64 (188 * (k : Int)), .int .i64 (188 * (k : Int) + 188), .string P, .bool false]
            (fun _ W => Eqv wr W) rfl (by kernel_rfl) (fin := ?fin1) ?hfin1 (Eqv.drew wr) ?each1 ?hend1
          case hfin1 => simp [seqA, dstOf, Act.put]; rfl
          case each1 =>
            refine ⟨?_, ?_, ?_, ?_, ?_, ?_, ?_, ?_, ?_, ?_, ?_, ?_, trivial⟩
            all_goals intro X w6 h0 hd hs hw
            all_goals have c1 := (hw.cell _).trans HC1.out
            all_goals unfold Does
            all_goals go_simp
            all_goals first | exact fun L' k => hw
          case hend1 =>
          intro X w6 hL hw
          have HV := Lib.hid (HEV.out.trans hw)
          clear hL hw
          go_wp2
          go_roundw
          case rel => exact ⟨k + 1, by omega, by go_num, HV.out⟩
          case measure => simp [intOf]; omega
        · obtain rfl : k = N := by omega
          have hlI : ¬ (k : Int) < (k : Int) := by omega
          have wr1 := wrapI (a := 188 * (k : Int)) (by omega) (by omega)
          have HKV := Lib.hid (HK.out.eqv HEV.out)
          clear hev
          go_wp2_with (first | (go_at_call 9; refine (HW.out _ (by first | exact HKV.out | exact HKV.out.alloc _ | exact (HKV.out.alloc _).alloc _)).mono ?_; rintro _ w9 ⟨rfl, k9⟩; have HKV := Lib.hid (HKV.out.trans k9); clear k9))
          go_ret
          exact ⟨rfl, HKV.out⟩
  exact main _ rfl

theorem own : ownKnob Tryd.prog.godebug = none := by kernel_rfl
theorem laidOut : laidOutB Tryd.prog = true := by kernel_rfl
set_option maxRecDepth 100000 in
theorem lifted (os : Os) (started : os.Started) (H : Type) (enc : TypeId × Value → H) :
    ReturnsInHanded {} Tryd.checked os 5 .any (fun w args => (Rows.packetFindsSpec.pre enc Tryd.prog Tryd.f5 [] false w args ∧ laidMetH Tryd.prog [("clarion/packet.wide", Rows.laid_clarion_packet_wide)] w) ∧ sizedMet enc Tryd.prog Tryd.f5 (OpenSpec.ofChange Rows.packetFindsSpec) false w args) (Rows.packetFindsSpec.post enc Tryd.prog Tryd.f5 false true false false) := by
  refine returnsInHanded_of_change_and (C := Tryd.checked) (X := fun w _ => laidMetH Tryd.prog [("clarion/packet.wide", Rows.laid_clarion_packet_wide)] w) (fun _ _ _ hh h => h.of_heap hh) own started (by kernel_rfl) Tryd.func5
    (ChangeSpec.witness_shaped (enc := enc) (C := Tryd.checked) (os := os) (X := fun w _ => laidMetH Tryd.prog [("clarion/packet.wide", Rows.laid_clarion_packet_wide)] w) false (World.doorLaid Tryd.prog 400 os) #[.string ByteArray.empty] 8 rfl (World.shaped_of_RefB (by kernel_rfl) (by kernel_rfl)) (by kernel_rfl) (by kernel_rfl) (by kernel_rfl) (door_met os _)) ?_
  intro W base args ds gs before hval0 hW hcnd _ hL _
  have hval : ∀ (j : Nat) t v, Tryd.f5.params[j]? = some t → args[j]? = some v → Value.okWide Tryd.prog W .any base t v := hval0
  have hW' := hW
  obtain ⟨p, q, hA0, hV, rfl, hfz, hnd⟩ := hW
  have hA : DataW.TrodAll enc Tryd.prog W 0 (fun _ => true) true Tryd.f5.params.toList args.toList ds p := hA0
  rw [Tryd.params5] at hA hval
  obtain ⟨v0, vs0, d0, ds0, p0, q0, hargs, rfl, rfl, h0, r0⟩ := trodAll_cons hA
  obtain ⟨rfl, rfl, rfl⟩ := trodAll_nil r0
  obtain rfl : args = #[v0] := by cases args; simp_all
  obtain ⟨rfl, rfl⟩ := trodVars_none hV
  obtain ⟨a0, rfl, rfl, rfl, w0⟩ := open_string Tryd.underlying9 (hval 0 9 v0 rfl rfl) h0
  clear hA0 hval0
  refine (walk a0 w0 W (wd_of_laid hL)).mono fun e W' ⟨he, bel⟩ => ?_
  subst he
  exact ⟨_, rfl, _, _, _, [], _, [], hW', trodAll_mk1 (shut_bool Tryd.underlying4 _), (trodAll_cons_mk (shut_string Tryd.underlying9 w0) trodAll_mk0), rfl, bel.frame _, fun h => by cases h⟩

theorem over : Rows.packetFindsRow.holds Tryd.pinned (OpenSpec.ofChange Rows.packetFindsSpec) :=
  OpenClaim.holds_of_wide 5 Tryd.f5 rfl rfl rfl rfl rfl rfl rfl ⟨rfl, rfl, rfl, rfl, rfl⟩ rfl rfl rfl rfl rfl (by kernel_rfl) Tryd.func5 (by kernel_rfl)
    (of_decide_eq_true (by kernel_rfl)) (by unfold Func.isWrapper; first | (rw [if_pos (by decide +kernel)]; kernel_rfl) | (rw [if_neg (by decide +kernel)]; exact ⟨rfl, rfl⟩))
    (fun os started H enc _ => lifted os started H enc)

set_option maxRecDepth 100000 in
theorem proved : Rows.PacketFindsCardSaid :=
  Claim7.holds_tied_plain_at .later [] [.data] true (true, _) false over (fun _ h => by cases h) (by kernel_rfl) (fun _ h => by cases h) packetFinds_row_tie rfl ⟨rfl, rfl⟩ (by kernel_rfl) rfl
    (fun f fn hf hfn => by
      obtain rfl : f = 5 := Option.some.inj ((show Tryd.prog.funcNamed "clarion/clarionlaw14.PacketFinds" = some 5 by kernel_rfl).symm.trans hf) |>.symm
      obtain rfl : fn = Tryd.f5 := (Option.some.inj (Tryd.func5.symm.trans hfn)).symm
      exact ⟨by kernel_rfl, fun j t ht => by
        rw [Tryd.params5] at ht
        have hm : t ∈ [9] := by simpa using Array.mem_of_getElem? ht
        have hall : ([9].all fun u => !Tryd.prog.wantsStandIn u) = true := by kernel_rfl
        exact (show Tryd.prog.wantsStandIn t = false by simpa using List.all_eq_true.1 hall t hm)⟩)
    (by kernel_rfl)
#print axioms proved
end Go.Proofs.YtikknojhoejciaaDoor.packetFinds
