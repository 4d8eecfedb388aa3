/-
  For any packet PacketTells returns true: what is wrong with it, which bytes it is, and which ones are nothing; nothing that was there is changed. The table of widths of package packet starts as the program lays it.
-/
import Derived.SevenTiedAt
import Derived.Test.YtikknojhoejciaaDoorRows
import Derived.Test.YtikknojhoejciaaDoorCards
import Derived.Test.YtikknojhoejciaaDoorTie
import Derived.Test.YtikknojhoejciaaDoorPkLaid
import Derived.Test.YtikknojhoejciaaDoorPkLaw
namespace Go.Proofs.YtikknojhoejciaaDoor.packetTells
open Go.ChangeShapes Go.WideShapes Go.ChangeAt Go.RowKit Gf Pk
set_option maxRecDepth 100000
open Go.ChangeMaps (open_string shut_string)
set_option linter.unusedVariables false
set_option maxHeartbeats 6400000 in
theorem walk (p : Pkt) (w : World) (hW : Wd w) :
    Calls Tryd.prog 3 #[pkV p] w fun e w' => e = .returned (.bool true) ∧ Below w.heap.size w w' := by
  obtain ⟨pid, start, count, bad, body⟩ := p
  obtain ⟨b, hb⟩ : ∃ b, w.heap.size = b := ⟨_, rfl⟩
  obtain ⟨wA, hA⟩ : ∃ wX, w.alloc (.cells #[.int .i64 pid, .bool start, .int .i64 count, .bool bad, .string body] 23) = wX := ⟨_, rfl⟩
  have HA := Lib.hid (show CsAt b (pkC ⟨pid, start, count, bad, body⟩) wA by rw [← hb, ← hA]; exact CsAt.made w #[.int .i64 pid, .bool start, .int .i64 count, .bool bad, .string body] _ (by simp))
  have HK := Lib.hid (show Keeps w wA by rw [← hA]; exact (Keeps.refl w).alloc _)
  have HW := Lib.hid (fun W (q : Keeps w W) => awake14_any W W (Keeps.refl W) (hW.keeps q))
  have q4 := HA.out.cell 4 rfl
  by_cases h : 300 < body.size
  · have hi : (300 : Int) < (body.size : Int) := by omega
    go_enter Tryd.func3, Tryd.ntmps3
    go_wp2_with (first | (go_at_call 9; refine (HW.out _ (by first | exact HK.out | exact HK.out.alloc _ | exact (HK.out.alloc _).alloc _)).mono ?_; rintro _ w9 ⟨rfl, k9⟩; have HK := Lib.hid (HK.out.trans k9); clear k9))
    go_ret
    exact ⟨rfl, HK.out⟩
  · have hi : ¬ (300 : Int) < (body.size : Int) := by omega
    obtain ⟨p, hp⟩ : ∃ p : Pkt, p = ⟨pid, start, count, bad, body⟩ := ⟨_, rfl⟩
    have HPL := Lib.hid (fun W => pkplain_any ⟨pid, start, count, bad, body⟩ W)
    have HRC := Lib.hid (fun W => rpkcheck_any W ⟨pid, start, count, bad, body⟩ W (Keeps.refl W))
    unfold PkkPost at HRC
    have HEC := Lib.hid (fun W (q : Keeps w W) => pkencode_any ⟨pid, start, count, bad, body⟩ W (hW.keeps q) (by show body.size ≤ 1000000; omega))
    have HCK := Lib.hid (fun W (q : Keeps w W) => pkcheck_any ⟨pid, start, count, bad, body⟩ W (hW.keeps q))
    have HEM := Lib.hid (fun W (q : Keeps w W) => pkempty_any W (hW.keeps q))
    have HBN := Lib.hid (fun W => show Calls Tryd.prog 16 #[.int .i64 184, .int .u8 255] W fun e w' => e = .returned (.string (st (byN 184 255))) ∧ Keeps W w' from pkbytes_any W 184 255 W (by decide) (Keeps.refl W))
    have HBE := Lib.hid (fun W => rpkbytes_any W emP W emP_ck (Keeps.refl W))
    unfold emP at HBE HEM
    have hsame : st (byN 184 255) = st (List.replicate 184 255) := rfl
    obtain ⟨G, hG⟩ : ∃ G, st (List.replicate 184 255) = G := ⟨_, rfl⟩
    rw [hsame] at HBN
    simp only [hG] at HBN HBE HEM
    obtain ⟨E, hE⟩ : ∃ E, st (bts ⟨8191, false, 0, false, G⟩) = E := ⟨_, rfl⟩
    simp only [hE] at HBE HEM
    clear hsame hG hE
    by_cases hc : ckP p = 0
    · have hz := bts_length (ckP_good hc).2
      have HBY := Lib.hid (fun W => rpkbytes_any W p W hc (Keeps.refl W))
      rw [hp] at hc HBY hz
      rw [ecP_ok hc] at HEC
      rw [hc] at HRC HCK
      have hz' : (st (bts ⟨pid, start, count, bad, body⟩)).size = 188 := by rw [st_size]; exact hz
      obtain ⟨Y, hY⟩ : ∃ Y, st (bts ⟨pid, start, count, bad, body⟩) = Y := ⟨_, rfl⟩
      simp only [hY] at HEC HBY hz'
      clear hc hz hY hp
      go_enter Tryd.func3, Tryd.ntmps3
      go_wp2_with (first | (refine wp_ldP (b := b) (off := 0) HA.out.r rfl _ rfl rfl ?_) | (go_at_call 11; refine (HPL.out _).mono ?_; rintro _ w1 ⟨rfl, k1⟩; have HA := Lib.hid (HA.out.keeps k1); have HK := Lib.hid (HK.out.trans k1); clear k1) | (go_at_call 10; refine (HRC.out _).mono ?_; rintro _ w2 ⟨rfl, k2⟩; have HA := Lib.hid (HA.out.keeps k2); have HK := Lib.hid (HK.out.trans k2); clear k2) | (go_at_call 12; refine (HEC.out _ (by first | exact HK.out | exact HK.out.alloc _ | exact (HK.out.alloc _).alloc _)).mono ?_; rintro _ w3 ⟨rfl, k3⟩; have HA := Lib.hid (HA.out.keeps k3); have HK := Lib.hid (HK.out.trans k3); clear k3) | (go_at_call 13; refine (HCK.out _ (by first | exact HK.out | exact HK.out.alloc _ | exact (HK.out.alloc _).alloc _)).mono ?_; rintro _ w4 ⟨rfl, k4⟩; have HA := Lib.hid (HA.out.keeps k4); have HK := Lib.hid (HK.out.trans k4); clear k4) | (go_at_call 14; refine (HEM.out _ (by first | exact HK.out | exact HK.out.alloc _ | exact (HK.out.alloc _).alloc _)).mono ?_; rintro _ w5 ⟨rfl, k5⟩; have HA := Lib.hid (HA.out.keeps k5); have HK := Lib.hid (HK.out.trans k5); clear k5) | (go_at_call 16; refine (HBN.out _).mono ?_; rintro _ w6 ⟨rfl, k6⟩; have HA := Lib.hid (HA.out.keeps k6); have HK := Lib.hid (HK.out.trans k6); clear k6) | (go_at_call 15; (with_reducible refine (HBE.out _).mono ?_); rintro _ w7 ⟨rfl, k7⟩; have HA := Lib.hid (HA.out.keeps k7); have HK := Lib.hid (HK.out.trans k7); clear k7) | (go_at_call 15; (with_reducible refine (HBY.out _).mono ?_); rintro _ w8 ⟨rfl, k8⟩; have HA := Lib.hid (HA.out.keeps k8); have HK := Lib.hid (HK.out.trans k8); clear k8) | (go_at_call 9; refine (HW.out _ (by first | exact HK.out | exact HK.out.alloc _ | exact (HK.out.alloc _).alloc _)).mono ?_; rintro _ w9 ⟨rfl, k9⟩; have HK := Lib.hid (HK.out.trans k9); clear k9))
      go_ret
      exact ⟨rfl, HK.out⟩
    · have hc2 := hc
      rw [hp] at hc
      rw [ecP_no hc] at HEC
      have hcb : (ckP ⟨pid, start, count, bad, body⟩ == 0) = false := by rw [beq_eq_false_iff_ne]; exact hc
      obtain ⟨c, hcc⟩ : ∃ c, ckP ⟨pid, start, count, bad, body⟩ = c := ⟨_, rfl⟩
      simp only [hcc] at HEC HRC HCK hcb
      have hst : st [] = ⟨#[]⟩ := rfl
      rw [hst] at HEC
      clear hc hc2 hcc hp hst
      go_enter Tryd.func3, Tryd.ntmps3
      go_wp2_with (first | (refine wp_ldP (b := b) (off := 0) HA.out.r rfl _ rfl rfl ?_) | (go_at_call 11; refine (HPL.out _).mono ?_; rintro _ w1 ⟨rfl, k1⟩; have HA := Lib.hid (HA.out.keeps k1); have HK := Lib.hid (HK.out.trans k1); clear k1) | (go_at_call 10; refine (HRC.out _).mono ?_; rintro _ w2 ⟨rfl, k2⟩; have HA := Lib.hid (HA.out.keeps k2); have HK := Lib.hid (HK.out.trans k2); clear k2) | (go_at_call 12; refine (HEC.out _ (by first | exact HK.out | exact HK.out.alloc _ | exact (HK.out.alloc _).alloc _)).mono ?_; rintro _ w3 ⟨rfl, k3⟩; have HA := Lib.hid (HA.out.keeps k3); have HK := Lib.hid (HK.out.trans k3); clear k3) | (go_at_call 13; refine (HCK.out _ (by first | exact HK.out | exact HK.out.alloc _ | exact (HK.out.alloc _).alloc _)).mono ?_; rintro _ w4 ⟨rfl, k4⟩; have HA := Lib.hid (HA.out.keeps k4); have HK := Lib.hid (HK.out.trans k4); clear k4) | (go_at_call 14; refine (HEM.out _ (by first | exact HK.out | exact HK.out.alloc _ | exact (HK.out.alloc _).alloc _)).mono ?_; rintro _ w5 ⟨rfl, k5⟩; have HA := Lib.hid (HA.out.keeps k5); have HK := Lib.hid (HK.out.trans k5); clear k5) | (go_at_call 16; refine (HBN.out _).mono ?_; rintro _ w6 ⟨rfl, k6⟩; have HA := Lib.hid (HA.out.keeps k6); have HK := Lib.hid (HK.out.trans k6); clear k6) | (go_at_call 15; (with_reducible refine (HBE.out _).mono ?_); rintro _ w7 ⟨rfl, k7⟩; have HA := Lib.hid (HA.out.keeps k7); have HK := Lib.hid (HK.out.trans k7); clear k7) | (go_at_call 9; refine (HW.out _ (by first | exact HK.out | exact HK.out.alloc _ | exact (HK.out.alloc _).alloc _)).mono ?_; rintro _ w9 ⟨rfl, k9⟩; have HK := Lib.hid (HK.out.trans k9); clear k9))
      go_ret
      exact ⟨rfl, HK.out⟩

theorem own : ownKnob Tryd.prog.godebug = none := by kernel_rfl
theorem laidOut : laidOutB Tryd.prog = true := by kernel_rfl
set_option maxRecDepth 100000 in
theorem lifted (os : Os) (started : os.Started) (H : Type) (enc : TypeId × Value → H) :
    ReturnsInHanded {} Tryd.checked os 3 .any (fun w args => (Rows.packetTellsSpec.pre enc Tryd.prog Tryd.f3 [] false w args ∧ laidMetH Tryd.prog [("clarion/packet.wide", Rows.laid_clarion_packet_wide)] w) ∧ sizedMet enc Tryd.prog Tryd.f3 (OpenSpec.ofChange Rows.packetTellsSpec) false w args) (Rows.packetTellsSpec.post enc Tryd.prog Tryd.f3 false true false false) := by
  refine returnsInHanded_of_change_and (C := Tryd.checked) (X := fun w _ => laidMetH Tryd.prog [("clarion/packet.wide", Rows.laid_clarion_packet_wide)] w) (fun _ _ _ hh h => h.of_heap hh) own started (by kernel_rfl) Tryd.func3
    (ChangeSpec.witness_shaped (enc := enc) (C := Tryd.checked) (os := os) (X := fun w _ => laidMetH Tryd.prog [("clarion/packet.wide", Rows.laid_clarion_packet_wide)] w) false (World.doorLaid Tryd.prog 400 os) #[.agg #[.int .i64 0, .bool false, .int .i64 0, .bool false, .string ByteArray.empty]] 8 rfl (World.shaped_of_RefB (by kernel_rfl) (by kernel_rfl)) (by kernel_rfl) (by kernel_rfl) (by kernel_rfl) (door_met os _)) ?_
  intro W base args ds gs before hval0 hW hcnd _ hL _
  have hval : ∀ (j : Nat) t v, Tryd.f3.params[j]? = some t → args[j]? = some v → Value.okWide Tryd.prog W .any base t v := hval0
  have hW' := hW
  obtain ⟨p, q, hA0, hV, rfl, hfz, hnd⟩ := hW
  have hA : DataW.TrodAll enc Tryd.prog W 0 (fun _ => true) true Tryd.f3.params.toList args.toList ds p := hA0
  rw [Tryd.params3] at hA hval
  obtain ⟨v0, vs0, d0, ds0, p0, q0, hargs, rfl, rfl, h0, r0⟩ := trodAll_cons hA
  obtain ⟨rfl, rfl, rfl⟩ := trodAll_nil r0
  obtain rfl : args = #[v0] := by cases args; simp_all
  obtain ⟨rfl, rfl⟩ := trodVars_none hV
  have k0 := h0
  have lt0 : ∀ x ∈ p0, x.block < W.heap.size := by obtain ⟨m, hm⟩ := k0; exact DataW.trod_lt m _ _ _ hm
  obtain ⟨P0, rfl⟩ := open_pkt (hval 0 23 v0 rfl rfl) h0
  clear hA0 hval0
  refine (walk P0 W (wd_of_laid hL)).mono fun e W' ⟨he, bel⟩ => ?_
  subst he
  exact ⟨_, rfl, _, _, _, [], _, [], hW', trodAll_mk1 (shut_bool Tryd.underlying4 _), (trodAll_cons_mk (Below.trod laidOut (by kernel_rfl) (of_decide_eq_true (by kernel_rfl)) k0 bel lt0) trodAll_mk0), rfl, bel.frame _, fun h => by cases h⟩

theorem over : Rows.packetTellsRow.holds Tryd.pinned (OpenSpec.ofChange Rows.packetTellsSpec) :=
  OpenClaim.holds_of_wide 3 Tryd.f3 rfl rfl rfl rfl rfl rfl rfl ⟨rfl, rfl, rfl, rfl, rfl⟩ rfl rfl rfl rfl rfl (by kernel_rfl) Tryd.func3 (by kernel_rfl)
    (of_decide_eq_true (by kernel_rfl)) (by unfold Func.isWrapper; first | (rw [if_pos (by decide +kernel)]; kernel_rfl) | (rw [if_neg (by decide +kernel)]; exact ⟨rfl, rfl⟩))
    (fun os started H enc _ => lifted os started H enc)

set_option maxRecDepth 100000 in
theorem proved : Rows.PacketTellsCardSaid :=
  Claim7.holds_tied_plain_at .later [] [.data] true (true, _) false over (fun _ h => by cases h) (by kernel_rfl) (fun _ h => by cases h) packetTells_row_tie rfl ⟨rfl, rfl⟩ (by kernel_rfl) rfl
    (fun f fn hf hfn => by
      obtain rfl : f = 3 := Option.some.inj ((show Tryd.prog.funcNamed "clarion/clarionlaw14.PacketTells" = some 3 by kernel_rfl).symm.trans hf) |>.symm
      obtain rfl : fn = Tryd.f3 := (Option.some.inj (Tryd.func3.symm.trans hfn)).symm
      exact ⟨by kernel_rfl, fun j t ht => by
        rw [Tryd.params3] at ht
        have hm : t ∈ [23] := by simpa using Array.mem_of_getElem? ht
        have hall : ([23].all fun u => !Tryd.prog.wantsStandIn u) = true := by kernel_rfl
        exact (show Tryd.prog.wantsStandIn t = false by simpa using List.all_eq_true.1 hall t hm)⟩)
    (by kernel_rfl)
#print axioms proved
end Go.Proofs.YtikknojhoejciaaDoor.packetTells
