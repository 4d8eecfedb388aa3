/-
  For any bytes PacketReads returns true: which packet they are, or why none; nothing that was there is changed. The table of widths of package packet starts as the program lays it.
-/
import Derived.SevenTiedAt
import Derived.Test.YtikknojhoejciaaDoorRows
import Derived.Test.YtikknojhoejciaaDoorCards
import Derived.Test.YtikknojhoejciaaDoorTie
import Derived.Test.YtikknojhoejciaaDoorPkLaid
import Derived.Test.YtikknojhoejciaaDoorPkLaw
namespace Go.Proofs.YtikknojhoejciaaDoor.packetReads
open Go.ChangeShapes Go.WideShapes Go.ChangeAt Go.RowKit Gf Pk
set_option maxRecDepth 100000
open Go.ChangeMaps (open_string shut_string)
set_option linter.unusedVariables false
set_option maxHeartbeats 6400000 in
theorem walk (s : ByteArray) (hlim : s.size ≤ maxLen) (w : World) (hW : Wd w) :
    Calls Tryd.prog 4 #[.string s] w fun e w' => e = .returned (.bool true) ∧ Below w.heap.size w w' := by
  have HW := Lib.hid (fun W (q : Keeps w W) => awake14_any W W (Keeps.refl W) (hW.keeps q))
  have HK := Lib.hid (Keeps.refl w)
  by_cases h : 300 < s.size
  · have hi : (300 : Int) < (s.size : Int) := by omega
    go_enter Tryd.func4, Tryd.ntmps4
    go_wp2_with (first | (go_at_call 9; refine (HW.out _ (by first | exact HK.out | exact HK.out.alloc _ | exact (HK.out.alloc _).alloc _)).mono ?_; rintro _ w9 ⟨rfl, k9⟩; have HK := Lib.hid (HK.out.trans k9); clear k9))
    go_ret
    exact ⟨rfl, HK.out⟩
  · have hi : ¬ (300 : Int) < (s.size : Int) := by omega
    have HD := Lib.hid (fun W (q : Keeps w W) => pkdecode_any s W (hW.keeps q) (by omega))
    have HR := Lib.hid (fun W => rpkdecode_any W s W (by omega) (Keeps.refl W))
    unfold PkdPost at HR
    obtain ⟨⟨⟨pid, start, count, bad, body⟩, e⟩, hQ⟩ : ∃ q, dc (ls s) = q := ⟨_, rfl⟩
    simp only [hQ] at HD HR
    have HPL := Lib.hid (fun W => pkplain_any ⟨pid, start, count, bad, body⟩ W)
    have hqq := fun W => eqQ ⟨pid, start, count, bad, body⟩ ⟨pid, start, count, bad, body⟩ W
    rw [sameP_self] at hqq
    have heg := egQ
    clear hQ
    go_enter Tryd.func4, Tryd.ntmps4
    go_wp2_with (first | (go_at_call 17; refine (HD.out _ (by first | exact HK.out | exact HK.out.alloc _ | exact (HK.out.alloc _).alloc _)).mono ?_; rintro _ w2 ⟨rfl, k2⟩; have HP := Lib.hid (CsAt.made w2 #[.int .i64 pid, .bool start, .int .i64 count, .bool bad, .string body] 23 (by simp)); have HK := Lib.hid ((HK.out.trans k2).alloc (.cells #[.int .i64 pid, .bool start, .int .i64 count, .bool bad, .string body] 23)); clear k2) | (go_at_call 18; refine (HR.out _).mono ?_; rintro _ w3 ⟨rfl, k3⟩; have HP := Lib.hid ((HP.out.keeps k3).keeps ((Keeps.refl w3).alloc (.cells #[.int .i64 pid, .bool start, .int .i64 count, .bool bad, .string body] 27))); have HQ := Lib.hid (CsAt.made w3 #[.int .i64 pid, .bool start, .int .i64 count, .bool bad, .string body] 27 (by simp)); have HK := Lib.hid ((HK.out.trans k3).alloc (.cells #[.int .i64 pid, .bool start, .int .i64 count, .bool bad, .string body] 27)); clear k3))
    refine wp_draw (by kernel_rfl) [.int .i64 e, .int .i64 e, .bool true, .bool true, pkV ⟨pid, start, count, bad, body⟩, pkV ⟨pid, start, count, bad, body⟩, pkV ⟨pid, start, count, bad, body⟩, .bool true, .bool true, .bool true, .bool true, .bool true, .bool true]
        (fun _ W => Keeps (w3.alloc (.cells #[.int .i64 pid, .bool start, .int .i64 count, .bool bad, .string body] 27)) W) rfl (by kernel_rfl) (fin := ?fin0) ?hfin0 ((Keeps.refl _).eqv (Eqv.drew _)) ?each0 ?hend0
    case hfin0 => simp [seqA, dstOf, Act.put]; rfl
    case each0 =>
        refine ⟨?_, ?_, ?_, ?_, ?_, ?_, ?_, ?_, ?_, ?_, ?_, ?_, ?_, trivial⟩
        all_goals intro X w6 h0 hd hs hw
        all_goals have p0 : w6.cell? ⟨w2.heap.size, 0, none⟩ = some (.int .i64 pid) := (HP.out.keeps hw).cell 0 rfl
        all_goals have p1 : w6.cell? ⟨w2.heap.size, 1, none⟩ = some (.bool start) := (HP.out.keeps hw).cell 1 rfl
        all_goals have p2 : w6.cell? ⟨w2.heap.size, 2, none⟩ = some (.int .i64 count) := (HP.out.keeps hw).cell 2 rfl
        all_goals have p3 : w6.cell? ⟨w2.heap.size, 3, none⟩ = some (.bool bad) := (HP.out.keeps hw).cell 3 rfl
        all_goals have p4 : w6.cell? ⟨w2.heap.size, 4, none⟩ = some (.string body) := (HP.out.keeps hw).cell 4 rfl
        all_goals have q0 : w6.cell? ⟨w3.heap.size, 0, none⟩ = some (.int .i64 pid) := (HQ.out.keeps hw).cell 0 rfl
        all_goals have q1 : w6.cell? ⟨w3.heap.size, 1, none⟩ = some (.bool start) := (HQ.out.keeps hw).cell 1 rfl
        all_goals have q2 : w6.cell? ⟨w3.heap.size, 2, none⟩ = some (.int .i64 count) := (HQ.out.keeps hw).cell 2 rfl
        all_goals have q3 : w6.cell? ⟨w3.heap.size, 3, none⟩ = some (.bool bad) := (HQ.out.keeps hw).cell 3 rfl
        all_goals have q4 : w6.cell? ⟨w3.heap.size, 4, none⟩ = some (.string body) := (HQ.out.keeps hw).cell 4 rfl
        all_goals first | rw [if_pos (by rfl)] | skip
        all_goals try unfold Does
        all_goals go_simp
        all_goals first | exact fun L' k => hw | ((with_reducible refine (HPL.out w6).mono ?_); rintro e w8 ⟨rfl, k8⟩; exact ⟨_, rfl, rfl, fun _ _ => hw.trans k8⟩) | ((with_reducible refine (HW.out w6 (Keeps.more HK.out hw)).mono ?_); rintro e w8 ⟨rfl, k8⟩; exact ⟨_, rfl, rfl, fun _ _ => hw.trans k8⟩)
    case hend0 =>
    intro X w6 hL hw
    have HK6 := Lib.hid (HK.out.trans hw)
    clear hw hL
    go_wp2
    go_ret
    exact ⟨rfl, HK6.out⟩

theorem own : ownKnob Tryd.prog.godebug = none := by kernel_rfl
theorem laidOut : laidOutB Tryd.prog = true := by kernel_rfl
set_option maxRecDepth 100000 in
theorem lifted (os : Os) (started : os.Started) (H : Type) (enc : TypeId × Value → H) :
    ReturnsInHanded {} Tryd.checked os 4 .any (fun w args => (Rows.packetReadsSpec.pre enc Tryd.prog Tryd.f4 [] false w args ∧ laidMetH Tryd.prog [("clarion/packet.wide", Rows.laid_clarion_packet_wide)] w) ∧ sizedMet enc Tryd.prog Tryd.f4 (OpenSpec.ofChange Rows.packetReadsSpec) false w args) (Rows.packetReadsSpec.post enc Tryd.prog Tryd.f4 false true false false) := by
  refine returnsInHanded_of_change_and (C := Tryd.checked) (X := fun w _ => laidMetH Tryd.prog [("clarion/packet.wide", Rows.laid_clarion_packet_wide)] w) (fun _ _ _ hh h => h.of_heap hh) own started (by kernel_rfl) Tryd.func4
    (ChangeSpec.witness_shaped (enc := enc) (C := Tryd.checked) (os := os) (X := fun w _ => laidMetH Tryd.prog [("clarion/packet.wide", Rows.laid_clarion_packet_wide)] w) false (World.doorLaid Tryd.prog 400 os) #[.string ByteArray.empty] 8 rfl (World.shaped_of_RefB (by kernel_rfl) (by kernel_rfl)) (by kernel_rfl) (by kernel_rfl) (by kernel_rfl) (door_met os _)) ?_
  intro W base args ds gs before hval0 hW hcnd _ hL _
  have hval : ∀ (j : Nat) t v, Tryd.f4.params[j]? = some t → args[j]? = some v → Value.okWide Tryd.prog W .any base t v := hval0
  have hW' := hW
  obtain ⟨p, q, hA0, hV, rfl, hfz, hnd⟩ := hW
  have hA : DataW.TrodAll enc Tryd.prog W 0 (fun _ => true) true Tryd.f4.params.toList args.toList ds p := hA0
  rw [Tryd.params4] at hA hval
  obtain ⟨v0, vs0, d0, ds0, p0, q0, hargs, rfl, rfl, h0, r0⟩ := trodAll_cons hA
  obtain ⟨rfl, rfl, rfl⟩ := trodAll_nil r0
  obtain rfl : args = #[v0] := by cases args; simp_all
  obtain ⟨rfl, rfl⟩ := trodVars_none hV
  obtain ⟨a0, rfl, rfl, rfl, w0⟩ := open_string Tryd.underlying9 (hval 0 9 v0 rfl rfl) h0
  clear hA0 hval0
  refine (walk a0 w0 W (wd_of_laid hL)).mono fun e W' ⟨he, bel⟩ => ?_
  subst he
  exact ⟨_, rfl, _, _, _, [], _, [], hW', trodAll_mk1 (shut_bool Tryd.underlying4 _), (trodAll_cons_mk (shut_string Tryd.underlying9 w0) trodAll_mk0), rfl, bel.frame _, fun h => by cases h⟩

theorem over : Rows.packetReadsRow.holds Tryd.pinned (OpenSpec.ofChange Rows.packetReadsSpec) :=
  OpenClaim.holds_of_wide 4 Tryd.f4 rfl rfl rfl rfl rfl rfl rfl ⟨rfl, rfl, rfl, rfl, rfl⟩ rfl rfl rfl rfl rfl (by kernel_rfl) Tryd.func4 (by kernel_rfl)
    (of_decide_eq_true (by kernel_rfl)) (by unfold Func.isWrapper; first | (rw [if_pos (by decide +kernel)]; kernel_rfl) | (rw [if_neg (by decide +kernel)]; exact ⟨rfl, rfl⟩))
    (fun os started H enc _ => lifted os started H enc)

set_option maxRecDepth 100000 in
theorem proved : Rows.PacketReadsCardSaid :=
  Claim7.holds_tied_plain_at .later [] [.data] true (true, _) false over (fun _ h => by cases h) (by kernel_rfl) (fun _ h => by cases h) packetReads_row_tie rfl ⟨rfl, rfl⟩ (by kernel_rfl) rfl
    (fun f fn hf hfn => by
      obtain rfl : f = 4 := Option.some.inj ((show Tryd.prog.funcNamed "clarion/clarionlaw14.PacketReads" = some 4 by kernel_rfl).symm.trans hf) |>.symm
      obtain rfl : fn = Tryd.f4 := (Option.some.inj (Tryd.func4.symm.trans hfn)).symm
      exact ⟨by kernel_rfl, fun j t ht => by
        rw [Tryd.params4] at ht
        have hm : t ∈ [9] := by simpa using Array.mem_of_getElem? ht
        have hall : ([9].all fun u => !Tryd.prog.wantsStandIn u) = true := by kernel_rfl
        exact (show Tryd.prog.wantsStandIn t = false by simpa using List.all_eq_true.1 hall t hm)⟩)
    (by kernel_rfl)
#print axioms proved
end Go.Proofs.YtikknojhoejciaaDoor.packetReads
