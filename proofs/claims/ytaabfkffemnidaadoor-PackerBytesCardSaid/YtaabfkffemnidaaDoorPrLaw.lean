/-
  The example of layer 15; plain packets.
-/
import Derived.Test.YtaabfkffemnidaaDoorPrImp
namespace Go.Proofs.YtaabfkffemnidaaDoor
open Go.RowKit Gf Pk Pr
set_option maxRecDepth 100000
/-- The chapter's section, and its packet's body. -/
def exB : ByteArray := ⟨#[104, 105]⟩
theorem exB_len : (mdB exB).length = 14 := mdB_length exB
theorem exB_bodies : bodies [mdB exB] = [(true, f184 (0 :: mdB exB))] := by
  have hl := exB_len
  have hne : mdB exB ≠ [] := fun e => by rw [e] at hl; cases hl
  rw [bodies_bd, List.flatten_cons, List.flatten_nil, List.append_nil, List.map_cons, List.map_nil]
  rw [bd_start hne (by decide) (fun h => by cases h.1), hl, List.take_of_length_le (by omega), List.drop_of_length_le (by omega)]
  rfl
theorem exB_pack : paO 17 3 [mdB exB] = ([⟨17, true, 3, false, st (f184 (0 :: mdB exB))⟩], 4, 0) := by
  rw [paO_ok (by decide) (fun s hs => by rw [List.mem_singleton.1 hs]; exact mdB_ck (by decide))]
  unfold paL
  rw [exB_bodies]; rfl
theorem exB_size : (st (f184 (0 :: mdB exB))).size = 184 := by rw [st_size, f184_length (by rw [List.length_cons, exB_len]; decide)]
theorem exB_head : (st (f184 (0 :: mdB exB))).extract 0 15 = (⟨#[0]⟩ : ByteArray) ++ st (mdB exB) := by
  rw [pk_take0, ls_st]
  unfold f184
  rw [List.take_append_of_le_length (by rw [List.length_cons, exB_len]; decide), List.take_of_length_le (by rw [List.length_cons, exB_len]; decide)]
  rw [show (⟨#[0]⟩ : ByteArray) = st [0] from rfl, st_append]; rfl
theorem exB_tail {i : Nat} (h : 15 ≤ i) (k : i < 184) : cf (f184 (0 :: mdB exB)) i = 255 := by
  unfold f184
  have hl : (0 :: mdB exB).length = 15 := by rw [List.length_cons, exB_len]
  rw [cf_right _ (by omega), hl, cf_lt (by rw [List.length_replicate]; omega), List.getElem_replicate]
/-- A struct in a row handed out is read. -/
theorem pkt_read {W : World} {a : Option Addr} {len : Nat} {l : List Pkt} (h : IsE pktT W a len l) {i : Nat} (hi : i < l.length) : ∃ b off, a = some ⟨b, off, none⟩ ∧ ∀ W', Keeps W W' → ∀ j v, (pkC l[i])[j]? = some v → W'.cell? ⟨b, off + i * 5 + j, none⟩ = some v := by
  obtain ⟨b, off, ha, hb, hc⟩ := h.get hi
  exact ⟨b, off, ha, fun W' k j v hj => by rw [Nat.add_assoc]; exact (Below.cell k (p := ⟨b, off + (i * 5 + j), none⟩) hb).trans (hc j v hj)⟩
set_option maxHeartbeats 3200000 in
theorem awake15_any (w0 w : World) (hk : Keeps w0 w) : Calls Tryd.prog 5 #[] w fun e w' => e = .returned (.bool true) ∧ Keeps w0 w' := by
  have HM := Lib.hid (fun W => prmade_any W exB W (by decide) (Keeps.refl W))
  obtain ⟨Y, hY, hh, hz, gg⟩ : ∃ Y : ByteArray, st (f184 (0 :: mdB exB)) = Y ∧ Y.extract 0 15 = (⟨#[0]⟩ : ByteArray) ++ st (mdB exB) ∧ Y.size = 184 ∧ ∀ i (h : i < Y.size), 15 ≤ i → Y[i] = 255 :=
    ⟨_, rfl, exB_head, exB_size, fun i h h15 => by rw [ls_get _ i h, ls_st, exB_tail h15 (by rw [exB_size] at h; exact h)]⟩
  have z15 : 15 < Y.size := by omega
  have z183 : 183 < Y.size := by omega
  have g15 := gg 15 z15 (by decide)
  have g183 := gg 183 z183 (by decide)
  have hpk := exB_pack
  have HP := Lib.hid (fun W (a : Option Addr) (len cap : Nat) (h : IsT W a len [mdB exB]) (hlc : len ≤ cap) => prpack_any 17 3 (cap := cap) W h hlc (by decide) (fun s hs => by rw [List.mem_singleton.1 hs, exB_len]; decide))
  unfold PaPost at HP
  rw [hpk] at HP
  simp only [hY] at HP
  obtain ⟨M, hM⟩ : ∃ M, st (mdB exB) = M := ⟨_, rfl⟩
  have hMl : mdB exB = ls M := by rw [← hM, ls_st]
  have hMz : M.size = 14 := by rw [← hM, st_size, exB_len]
  rw [hM] at HM hh
  rw [hMl] at HP
  unfold exB at HM
  have i15 : (15 : Int) ≤ (Y.size : Int) := by omega
  have j15 : (15 : Int) < (Y.size : Int) := by omega
  have j183 : (183 : Int) < (Y.size : Int) := by omega
  have f1 : ¬ 9223372036854775807 < 1 + M.size := by omega
  obtain ⟨X, hX⟩ : ∃ X, (⟨#[0]⟩ : ByteArray) ++ M = X := ⟨_, rfl⟩
  rw [hX] at hh
  have HKK := Lib.hid hk
  clear hpk hY hM hMl hk gg
  go_enter Tryd.func5, Tryd.ntmps5
  go_wp2_with (first | (go_at_call 12; refine (HM.out _).mono ?_; rintro _ w1 ⟨rfl, k1⟩; have HKK := Lib.hid (HKK.out.trans k1); clear k1) | (go_at_call 13; refine (HP.out _ _ _ _ (IsT.one w1 M 9) (Nat.le_refl _)).mono ?_; rintro _ w2 ⟨a2, cap2, rfl, hi2, hc2, k2⟩; have HKK := Lib.hid ((HKK.out.alloc (.cells #[.string M] 9)).trans k2); have HI2 := Lib.hid hi2; clear k2 hi2; obtain ⟨b2, off2, rfl, hcell⟩ := pkt_read HI2.out (i := 0) (show 0 < 1 by decide); have HCE := Lib.hid hcell; clear hcell))
  refine wp_draw (by kernel_rfl) [.int .i64 0, .bool true, .bool true, .int .i64 4, .bool true, .bool true, .bool true, .slice (some ⟨b2, off2, none⟩) 1 cap2, .int .i64 1, .bool true, .bool true, .bool true, .slice (some ⟨b2, off2, none⟩) 1 cap2, .pointer (some ⟨b2, off2, none⟩), .pointer (some ⟨b2, off2 + 1, none⟩), .bool true, .bool true, .bool true, .slice (some ⟨b2, off2, none⟩) 1 cap2, .pointer (some ⟨b2, off2, none⟩), .pointer (some ⟨b2, off2, none⟩), .int .i64 17, .bool true, .bool true, .bool true, .slice (some ⟨b2, off2, none⟩) 1 cap2, .pointer (some ⟨b2, off2, none⟩), .pointer (some ⟨b2, off2 + 2, none⟩), .int .i64 3, .bool true, .bool true, .bool true, .slice (some ⟨b2, off2, none⟩) 1 cap2, .pointer (some ⟨b2, off2, none⟩), .pointer (some ⟨b2, off2 + 4, none⟩), .string Y, .int .i64 184, .bool true, .bool true, .bool true, .slice (some ⟨b2, off2, none⟩) 1 cap2, .pointer (some ⟨b2, off2, none⟩), .pointer (some ⟨b2, off2 + 4, none⟩), .string Y, .string X, .string M, .string X, .bool true, .bool true, .bool true, .slice (some ⟨b2, off2, none⟩) 1 cap2, .pointer (some ⟨b2, off2, none⟩), .pointer (some ⟨b2, off2 + 4, none⟩), .string Y, .int .u8 255, .bool true, .bool true, .bool true, .slice (some ⟨b2, off2, none⟩) 1 cap2, .pointer (some ⟨b2, off2, none⟩), .pointer (some ⟨b2, off2 + 4, none⟩), .string Y, .int .u8 255, .bool true, .bool true, .bool true]
    (fun _ W => Keeps w2 W) rfl (by kernel_rfl) (fin := ?fin) ?hfin ((Keeps.refl w2).eqv (Eqv.drew w2)) ?each ?hend
  case hfin => simp [seqA, dstOf, Act.put]; rfl
  case each =>
    refine ⟨?_, ?_, ?_, ?_, ?_, ?_, ?_, ?_, ?_, ?_, ?_, ?_, ?_, ?_, ?_, ?_, ?_, ?_, ?_, ?_, ?_, ?_, ?_, ?_, ?_, ?_, ?_, ?_, ?_, ?_, ?_, ?_, ?_, ?_, ?_, ?_, ?_, ?_, ?_, ?_, ?_, ?_, ?_, ?_, ?_, ?_, ?_, ?_, ?_, ?_, ?_, ?_, ?_, ?_, ?_, ?_, ?_, ?_, ?_, ?_, ?_, ?_, ?_, ?_, ?_, ?_, trivial⟩
    all_goals intro Z w6 h0 hd hs hw
    all_goals have c0 : w6.cell? ⟨b2, off2, none⟩ = some (.int .i64 17) := HCE.out w6 hw 0 _ rfl
    all_goals have c1 : w6.cell? ⟨b2, off2 + 1, none⟩ = some (.bool true) := HCE.out w6 hw 1 _ rfl
    all_goals have c2 : w6.cell? ⟨b2, off2 + 2, none⟩ = some (.int .i64 3) := HCE.out w6 hw 2 _ rfl
    all_goals have c4 : w6.cell? ⟨b2, off2 + 4, none⟩ = some (.string Y) := HCE.out w6 hw 4 _ rfl
    all_goals first | rw [if_pos (by rfl)] | skip
    all_goals try unfold Does
    all_goals go_simp
    all_goals first | exact fun L' k => hw | ((with_reducible refine (HM.out w6).mono ?_); rintro e w8 ⟨rfl, k8⟩; exact ⟨_, rfl, rfl, fun _ _ => hw.trans k8⟩)
  case hend =>
  intro Z w9 hL hw
  have HK9 := Lib.hid (HKK.out.trans hw)
  clear hw hL
  go_wp2
  go_ret
  exact ⟨rfl, HK9.out⟩
end Go.Proofs.YtaabfkffemnidaaDoor
