/-
  For any bodies and count PackerMany returns true: Many is how many packets Pack makes, and they are no fewer than the bytes need; nothing that was there is changed. Condition: the table of widths of package packet lies as the program's text lays it (the card ties it).
-/
import Derived.SevenTiedAt
import Derived.Test.YtaabfkffemnidaaDoorRows
import Derived.Test.YtaabfkffemnidaaDoorPrLaw
import Derived.Test.YtaabfkffemnidaaDoorCards
import Derived.Test.YtaabfkffemnidaaDoorTie
import Derived.Test.YtaabfkffemnidaaDoorPrMB
import Derived.Test.YtaabfkffemnidaaDoorPkLaid
namespace Go.Proofs.YtaabfkffemnidaaDoor.packerMany
open Go.ChangeShapes Go.WideShapes Go.ChangeAt Go.RowKit Gf Pk Pr
set_option maxRecDepth 100000
open Go.ChangeMaps (open_string shut_string)
set_option linter.unusedVariables false
/-- The sections of bodies. -/
def secsL (L : List (List UInt8)) : List (List UInt8) := L.map fun s => mdB (st s)
theorem secsL_length (L : List (List UInt8)) : (secsL L).length = L.length := List.length_map ..
theorem isN {α : Type} {T : RowT α} {w : World} {base : Nat} {v : Value} {l : List α} (h : OwnE T w base v l) {n : Nat} (hn : l.length = n) : ∃ a cap, v = .slice a n cap ∧ IsE T w a n l := by
  obtain ⟨a, cap, e, hi, _⟩ := h.is
  subst hn
  exact ⟨a, cap, e, hi⟩
def szs (L : List (List UInt8)) : List Int := L.map fun s => (s.length : Int) + 12
theorem szs_length (L : List (List UInt8)) : (szs L).length = L.length := List.length_map ..
def sumZ (L : List (List UInt8)) : Nat := ((secsL L).map List.length).sum
structure PmIn (w : World) (L : List (List UInt8)) (k : Nat) (vl vs : Value) (wr : World) : Prop where
  l : OwnE rowT wr w.heap.size vl (secsL (L.take k))
  s : OwnE rowZ wr w.heap.size vs (szs (L.take k))
  a : ∀ g, vl.ownBlock = some g → vs.ownBlock ≠ some g
  kp : Keeps w wr
  c : ∀ x ∈ L.take k, x.length ≤ 1400
def pmRel (w : World) (L : List (List UInt8)) (vl vs all i : Value) (wr : World) : Prop := ∃ k : Nat, k ≤ L.length ∧ i = .int .i64 (k : Int) ∧ all = .int .i64 (sumZ (L.take k) : Int) ∧ PmIn w L k vl vs wr
theorem secs_next {L : List (List UInt8)} {k : Nat} (h : k < L.length) : secsL (L.take (k + 1)) = secsL (L.take k) ++ [mdB (st L[k])] := by
  unfold secsL; rw [List.take_add_one, List.getElem?_eq_getElem h, List.map_append]; rfl
theorem szs_next {L : List (List UInt8)} {k : Nat} (h : k < L.length) : szs (L.take (k + 1)) = szs (L.take k) ++ [(L[k].length : Int) + 12] := by
  unfold szs; rw [List.take_add_one, List.getElem?_eq_getElem h, List.map_append]; rfl
theorem sumZ_next {L : List (List UInt8)} {k : Nat} (h : k < L.length) : sumZ (L.take (k + 1)) = sumZ (L.take k) + (L[k].length + 12) := by
  unfold sumZ; rw [secs_next h, List.map_append, List.sum_append, List.map_cons, List.map_nil, List.sum_cons, List.sum_nil, mdB_length, st_size, Nat.add_zero]
theorem sumZ_bd {L : List (List UInt8)} : ∀ k, (∀ x ∈ L.take k, x.length ≤ 1400) → sumZ (L.take k) ≤ 1412 * k
  | 0, _ => by simp [sumZ, secsL]
  | k + 1, h => by
    by_cases hk : k < L.length
    · rw [sumZ_next hk]
      have h1 := sumZ_bd k fun x hx => h x (by rw [List.take_add_one]; exact List.mem_append_left _ hx)
      have h2 := h L[k] (by rw [List.take_add_one, List.getElem?_eq_getElem hk]; exact List.mem_append_right _ (List.mem_singleton.2 rfl))
      omega
    · have h1 := sumZ_bd k fun x hx => h x (by rw [List.take_add_one]; exact List.mem_append_left _ hx)
      rw [List.take_of_length_le (by omega)] at h1 ⊢
      omega
/-- What Pack, Bytes and Many answer at the sections of bodies. -/
theorem at_secs {L : List (List UInt8)} {count : Int} (h0 : 0 ≤ count) (h15 : count ≤ 15) (hc : ∀ x ∈ L, x.length ≤ 1400) (hn : L.length ≤ 20) :
    ∃ (l : List Pkt) (B : Nat) (F : List UInt8), l.length = B ∧ paO 9 count (secsL L) = (l, (count + (B : Int)) % 16, 0) ∧ byO l = (F, 0) ∧ F.length = 188 * B ∧ mnO (szs L) = (B : Int) ∧ sumZ L ≤ 184 * B ∧ B ≤ (sumZ L + 183) / 184 + L.length ∧ ∀ p ∈ l, p.body.size ≤ 1000000 := by
  have hsec : ∀ s ∈ secsL L, ck15 s = 0 ∧ 12 ≤ s.length ∧ s.length ≤ 4096 := fun s hs => by
    obtain ⟨x, hx, rfl⟩ := List.mem_map.1 hs
    have h1 := hc x hx
    have hk := mdB_ck (b := st x) (by rw [st_size]; omega)
    exact ⟨hk, ck15_good hk⟩
  have hok : okS 9 count := ⟨⟨by decide, by decide⟩, h0, h15⟩
  have hp1 : ∀ s ∈ secsL L, 1 ≤ s.length ∧ s.length ≤ 4096 := fun s hs => ⟨by have := (hsec s hs).2.1; omega, (hsec s hs).2.2⟩
  have hck := paL_ck hok hp1
  have hmb := many_bound hp1
  rw [List.length_flatten, show ((secsL L).map List.length).sum = sumZ L from rfl, secsL_length] at hmb
  refine ⟨paL 9 count (secsL L), (bodies (secsL L)).length, _, paL_length .., paO_ok hok fun s hs => (hsec s hs).1, byO_ok hck, ?_, ?_, hmb.1, hmb.2, fun p hp => ?_⟩
  · rw [bts_all hck, paL_length]
  · have e : (szs L).map Int.toNat = (secsL L).map List.length := by
      unfold szs secsL
      rw [List.map_map, List.map_map]
      refine List.map_congr_left fun x _ => ?_
      show ((x.length : Int) + 12).toNat = (mdB (st x)).length
      rw [mdB_length, st_size]; omega
    rw [mnO_ok, e, bodies_many]
    intro x hx
    obtain ⟨y, hy, rfl⟩ := List.mem_map.1 hx
    have := hc y hy; omega
  · have := (ckP_good (hck p hp)).2; omega
theorem szs_get {L : List (List UInt8)} : (szs L).length = L.length := szs_length L
set_option maxHeartbeats 12800000 in
theorem walk (a : Option Addr) (len cap : Nat) (L : List (List UInt8)) (w : World) (hI0 : IsT w a len L ∧ len ≤ cap) (count : Int) (hcn : (Lit.int .i64 count).wf = true) (hW : Wd w) :
    Calls Tryd.prog 4 #[.slice a len cap, .int .i64 count] w fun e w' => e = .returned (.bool true) ∧ Below w.heap.size w w' := by
  have HW := Lib.hid (fun W => awake15_any W W (Keeps.refl W))
  have HK := Lib.hid (Keeps.refl w)
  obtain ⟨hI, -⟩ := hI0
  obtain ⟨N, hN⟩ : ∃ N, L.length = N := ⟨_, rfl⟩
  have hll : len = N := by rw [← hN]; exact hI.1
  subst hll
  have HI := Lib.hid hI
  have HN := Lib.hid hN
  clear hI hN hcn
  by_cases h6 : 20 < len
  · have hi : (20 : Int) < (len : Int) := by omega
    go_enter Tryd.func4, Tryd.ntmps4
    go_wp2_with (first | (go_at_call 5; refine (HW.out _).mono ?_; rintro _ w9 ⟨rfl, k9⟩; have HK := Lib.hid (HK.out.trans k9); clear k9))
    go_ret
    exact ⟨rfl, HK.out⟩
  have hi : ¬ (20 : Int) < (len : Int) := by omega
  by_cases h0 : count < 0
  · go_enter Tryd.func4, Tryd.ntmps4
    go_wp2_with (first | (go_at_call 5; refine (HW.out _).mono ?_; rintro _ w9 ⟨rfl, k9⟩; have HK := Lib.hid (HK.out.trans k9); clear k9))
    go_ret
    exact ⟨rfl, HK.out⟩
  by_cases h15 : 15 < count
  · go_enter Tryd.func4, Tryd.ntmps4
    go_wp2_with (first | (go_at_call 5; refine (HW.out _).mono ?_; rintro _ w9 ⟨rfl, k9⟩; have HK := Lib.hid (HK.out.trans k9); clear k9))
    go_ret
    exact ⟨rfl, HK.out⟩
  go_enter Tryd.func4, Tryd.ntmps4
  go_wp2
  go_loopw [5, 6, 7, 8] (fun vl vs all i wr => pmRel w L vl vs all i wr) (fun _ _ _ i _ => len - (intOf i).toNat)
  case atStart => exact ⟨0, Nat.zero_le _, rfl, rfl, ⟨OwnE.nil _ _, OwnE.nil _ _, (fun g hg => by cases hg), Keeps.refl w, by simp⟩⟩
  case round =>
    obtain ⟨k, hk, rfl, rfl, hp⟩ := hrel
    rw [HN.out] at hk
    have hsb := sumZ_bd k hp.c
    have HP := Lib.hid hp
    clear hp
    by_cases hlt : k < len
    · have hlI : (k : Int) < (len : Int) := by omega
      have hkL : k < L.length := by rw [HN.out]; exact hlt
      obtain ⟨b1, off1, rfl, hc1⟩ := (HI.out.keeps HP.out.kp).get hkL
      rw [List.getD_eq_getElem?_getD, List.getElem?_eq_getElem hkL] at hc1
      simp only [Option.getD_some] at hc1
      have HX1 := Lib.hid (secs_next hkL)
      have HX2 := Lib.hid (szs_next hkL)
      have HX3 := Lib.hid (sumZ_next hkL)
      have HTK := Lib.hid (show L[k].length ≤ 1400 → ∀ x ∈ L.take (k + 1), x.length ≤ 1400 from fun h x hx => by
        rw [List.take_add_one, List.getElem?_eq_getElem hkL] at hx
        rcases List.mem_append.1 hx with y | y
        · exact HP.out.c x y
        · rw [List.mem_singleton.1 y]; exact h)
      obtain ⟨n, hn⟩ : ∃ n, L[k].length = n := ⟨_, rfl⟩
      rw [hn] at HX2 HX3 HTK
      obtain ⟨T, hT⟩ : ∃ T, st L[k] = T := ⟨_, rfl⟩
      have hTz : T.size = n := by rw [← hT, st_size]; exact hn
      rw [hT] at hc1 HX1
      clear hn hT
      by_cases h14 : 1400 < n
      · have h14i : (1400 : Int) < (T.size : Int) := by omega
        have HK := Lib.hid HP.out.kp
        clear hTz
        go_wp2_with (first | (go_at_call 5; refine (HW.out _).mono ?_; rintro _ w9 ⟨rfl, k9⟩; have HK := Lib.hid (HK.out.trans k9); clear k9))
        go_ret
        exact ⟨rfl, HK.out⟩
      · have h14i : ¬ (1400 : Int) < (T.size : Int) := by omega
        replace HTK := Lib.hid (HTK.out (by omega))
        have HMD := Lib.hid (fun W => prmade_any W T W (by omega) (Keeps.refl W))
        have hYz0 := mdB_length T
        obtain ⟨M, hM⟩ : ∃ M, mdB T = M := ⟨_, rfl⟩
        rw [hM] at HMD HX1 hYz0
        obtain ⟨Y, hY⟩ : ∃ Y, st M = Y := ⟨_, rfl⟩
        have hYz : Y.size = n + 12 := by rw [← hY, st_size, hYz0, hTz]
        have HY := Lib.hid hY
        simp only [hY] at HMD
        have hl1 := secsL_length (L.take k)
        have hl2 := szs_length (L.take k)
        rw [List.length_take, HN.out, Nat.min_eq_left hk] at hl1 hl2
        have HL1 := Lib.hid hl1
        have HL2 := Lib.hid hl2
        have HLN := Lib.hid (show (secsL (L.take k) ++ [M]).length = k + 1 by rw [List.length_append, hl1]; rfl)
        have HGT := Lib.hid (show (secsL (L.take k) ++ [M]).getD k [] = M by rw [List.getD_eq_getElem?_getD, List.getElem?_append_right (by omega), hl1, Nat.sub_self]; rfl)
        obtain ⟨q, hq⟩ : ∃ q : Nat, sumZ (L.take k) = q := ⟨_, rfl⟩
        rw [hq] at hsb HX3
        have wr1 := wrapI (a := (k : Int) + 1) (by omega) (by omega)
        have wr2 := wrapI (a := (q : Int) + ((n : Int) + 12)) (by omega) (by omega)
        have hYi : (Y.size : Int) = (n : Int) + 12 := by omega
        clear hM hY hYz0 hl1 hl2 hYz hTz
        rw [hq]
        have HQ := Lib.hid hq
        clear hq
        go_wp2_with (first | (go_at_call 12; refine (HMD.out _).mono ?_; rintro _ w2 ⟨rfl, k2⟩; have HL2w := Lib.hid (HP.out.l.keeps k2); have HS2w := Lib.hid (HP.out.s.keeps k2); have HK2 := Lib.hid (HP.out.kp.trans k2); clear k2) | (at_builtin; refine wp_pushE (T := rowT) rfl _ _ rfl M #[.string Y] (by rw [← HY.out]; rfl) w2.heap.size rfl HL2w.out rfl rfl (by rw [HL1.out]; omega) (Below.size HK2.out) 9 ?_; intro v3 w3 o3 g3 at3; obtain ⟨a3, cap3, rfl, hI3⟩ := isN o3 HLN.out; obtain ⟨b3, off3, rfl, hc3⟩ := hI3.texts.get (k := k) (by rw [HLN.out]; omega); rw [HGT.out, HY.out] at hc3; have HO3 := Lib.hid o3; have HS3 := Lib.hid ((HS2w.out.keeps ((Keeps.refl w2).alloc (.cells #[.string Y] 9))).stays g3 (fun b hb => HP.out.a b hb)); have HK3 := Lib.hid ((HK2.out.alloc (.cells #[.string Y] 9)).grown g3 HL2w.out.block); have HA3 := Lib.hid (show ∀ g, Value.ownBlock (.slice (some ⟨b3, off3, none⟩) (k + 1) cap3) = some g → u6.ownBlock ≠ some g from fun g hg e => (at3.elim (fun z => HP.out.a g (z ▸ hg) e) (fun z => by rw [z] at hg; have := HS2w.out.old e; cases hg; omega))); clear o3 g3 at3 hI3) | (at_builtin; refine wp_pushE (T := rowZ) rfl _ _ rfl ((n : Int) + 12) #[.int .i64 ((n : Int) + 12)] rfl w3.heap.size rfl HS3.out rfl rfl (by rw [HL2.out]; omega) (Below.size HK3.out) 3 ?_; intro v4 w4 o4 g4 at4; have HS4 := Lib.hid o4; have HL4 := Lib.hid ((HO3.out.keeps ((Keeps.refl w3).alloc (.cells #[.int .i64 ((n : Int) + 12)] 3))).stays g4 (fun b hb e => HA3.out b e hb)); have HK4 := Lib.hid ((HK3.out.alloc (.cells #[.int .i64 ((n : Int) + 12)] 3)).grown g4 HS3.out.block); have HA4 := Lib.hid (show ∀ g, Value.ownBlock (.slice (some ⟨b3, off3, none⟩) (k + 1) cap3) = some g → v4.ownBlock ≠ some g from fun g hg e => (at4.elim (fun z => HA3.out g hg (z ▸ e)) (fun z => by rw [z] at e; have := HO3.out.old hg; cases e; omega))); have hc4 : w4.cell? ⟨b3, off3 + k, none⟩ = some (.string Y) := (by obtain ⟨a4, cap4, e4, hI4⟩ := isN HL4.out HLN.out; cases e4; obtain ⟨b4, off4, e5, hc5⟩ := hI4.texts.get (k := k) (by rw [HLN.out]; omega); cases e5; rw [HGT.out, HY.out] at hc5; exact hc5); clear o4 g4 at4))
        go_roundw
        case rel => exact ⟨k + 1, by rw [HN.out]; omega, by go_num, by rw [HX3.out]; simp only [Value.int.injEq, true_and]; omega, ⟨by rw [HX1.out]; exact HL4.out, by rw [HX2.out]; exact HS4.out, HA4.out, HK4.out, HTK.out⟩⟩
        case measure => simp [intOf]; omega
    · have hkl : k = len := by omega
      have htk : L.take k = L := List.take_of_length_le (by rw [HN.out]; omega)
      have hcA := HP.out.c
      rw [htk] at hcA hsb
      obtain ⟨l, B, F, hl, hpa, hby, hF, hmn, hb1, hb2, hbz⟩ := at_secs (count := count) (by omega) (by omega) hcA (by rw [HN.out]; omega)
      have HL := Lib.hid HP.out.l
      have HS := Lib.hid HP.out.s
      rw [htk] at HL HS
      rw [HN.out] at hb2
      obtain ⟨al, cl, rfl, hIl, hcl⟩ := isC HL.out (n := len) (by rw [secsL_length]; exact HN.out)
      obtain ⟨aq, cs, rfl, hIs, hcs⟩ := isC HS.out (n := len) (by rw [szs_length]; exact HN.out)
      have HPA := Lib.hid (prpack_any 9 count (cap := cl) wr hIl.texts hcl (by rw [secsL_length, HN.out]; omega) (fun s hs => by
        obtain ⟨x, hx, rfl⟩ := List.mem_map.1 hs
        rw [mdB_length, st_size]; have := hcA x hx; omega))
      unfold PaPost at HPA
      rw [hpa] at HPA
      simp only [hl] at HPA
      have HWR := Lib.hid (hW.keeps HP.out.kp)
      have HBY := Lib.hid (fun W (q : Keeps wr W) (a : Option Addr) (cap : Nat) (h : IsE pktT W a B l) => prbytes_any (cap := cap) W (HWR.out.keeps q) h (by omega) hbz)
      unfold ByPost at HBY
      rw [hby] at HBY
      obtain ⟨Z, hZ⟩ : ∃ Z, st F = Z := ⟨_, rfl⟩
      have hZz : Z.size = 188 * B := by rw [← hZ, st_size, hF]
      simp only [hZ] at HBY
      have HMN := Lib.hid (fun W (h : Keeps wr W) => prmany_any (cap := cs) W (hIs.keeps h) hcs (by rw [szs_length, HN.out]; omega))
      rw [hmn] at HMN
      have HKW := Lib.hid HP.out.kp
      obtain ⟨q, hq⟩ : ∃ q : Nat, sumZ L = q := ⟨_, rfl⟩
      rw [hq] at hb1 hb2 hsb
      rw [htk, hq]
      clear hpa hby hF hmn hbz hl hIl hIs hcA hZ htk HP hq
      have hlI : ¬ (k : Int) < (len : Int) := by omega
      have wr1 := wrapI (a := (184 : Int) * (B : Int)) (by omega) (by omega)
      have wr2 := wrapI (a := (q : Int) + 183) (by omega) (by omega)
      have wr3 := wrapI (a := (count : Int) + (B : Int)) (by omega) (by omega)
      have wr4 := wrapI (a := (188 : Int) * (B : Int)) (by omega) (by omega)
      go_wp2_with (first | (go_at_call 13; refine HPA.out.mono ?_; rintro _ w2 ⟨a2, cap2, rfl, hi2, hc2, k2⟩; have HI2 := Lib.hid hi2; have HK2 := Lib.hid k2; clear k2 hi2 hc2) | (go_at_call 9; refine (HBY.out _ HK2.out _ _ HI2.out).mono ?_; rintro _ w3 ⟨rfl, k3⟩; have HK3 := Lib.hid (HK2.out.trans k3); clear k3) | (go_at_call 11; refine (HMN.out _ HK3.out).mono ?_; rintro _ w4 ⟨rfl, k4⟩; have HK := Lib.hid (HKW.out.trans (HK3.out.trans k4)); clear k4) | (go_at_call 5; refine (HW.out _).mono ?_; rintro _ w9 ⟨rfl, k9⟩; have HK := Lib.hid (HK.out.trans k9); clear k9))
      go_ret
      exact ⟨rfl, HK.out⟩

theorem own : ownKnob Tryd.prog.godebug = none := by kernel_rfl
theorem laidOut : laidOutB Tryd.prog = true := by kernel_rfl
set_option maxRecDepth 100000 in
theorem lifted (os : Os) (started : os.Started) (H : Type) (enc : TypeId × Value → H) :
    ReturnsInHanded {} Tryd.checked os 4 .any (fun w args => (Rows.packerManySpec.pre enc Tryd.prog Tryd.f4 [] false w args ∧ laidMetH Tryd.prog [("clarion/packet.wide", Rows.laid_clarion_packet_wide)] w) ∧ sizedMet enc Tryd.prog Tryd.f4 (OpenSpec.ofChange Rows.packerManySpec) false w args) (Rows.packerManySpec.post enc Tryd.prog Tryd.f4 false true false false) := by
  refine returnsInHanded_of_change_and (C := Tryd.checked) (X := fun w _ => laidMetH Tryd.prog [("clarion/packet.wide", Rows.laid_clarion_packet_wide)] w) (fun _ _ _ hh h => h.of_heap hh) own started (by kernel_rfl) Tryd.func4
    (ChangeSpec.witness_shaped (enc := enc) (C := Tryd.checked) (os := os) (X := fun w _ => laidMetH Tryd.prog [("clarion/packet.wide", Rows.laid_clarion_packet_wide)] w) false (World.doorLaid Tryd.prog 400 os) #[.slice none 0 0, .int .i64 0] 8 rfl (World.shaped_of_RefB (by kernel_rfl) (by kernel_rfl)) (by kernel_rfl) (by kernel_rfl) (by kernel_rfl) (door_met os _)) ?_
  intro W base args ds gs before hval0 hW hcnd _ hL _
  have hval : ∀ (j : Nat) t v, Tryd.f4.params[j]? = some t → args[j]? = some v → Value.okWide Tryd.prog W .any base t v := hval0
  have hW' := hW
  obtain ⟨p, q, hA0, hV, rfl, hfz, hnd⟩ := hW
  have hA : DataW.TrodAll enc Tryd.prog W 0 (fun _ => true) true Tryd.f4.params.toList args.toList ds p := hA0
  rw [Tryd.params4] at hA hval
  obtain ⟨v0, vs0, d0, ds0, p0, q0, hargs, rfl, rfl, h0, r0⟩ := trodAll_cons hA
  obtain ⟨v1, vs1, d1, ds1, p1, q1, rfl, rfl, rfl, h1, r1⟩ := trodAll_cons r0
  obtain ⟨rfl, rfl, rfl⟩ := trodAll_nil r1
  obtain rfl : args = #[v0, v1] := by cases args; simp_all
  obtain ⟨rfl, rfl⟩ := trodVars_none hV
  obtain ⟨a0, len0, cap0, rfl⟩ := okWide_slice Tryd.underlying34 (hval 0 34 v0 rfl rfl)
  have k0 := h0
  have lt0 : ∀ x ∈ p0, x.block < W.heap.size := by obtain ⟨m, hm⟩ := k0; exact DataW.trod_lt m _ _ _ hm
  obtain ⟨z0, w0⟩ := open_trow h0
  obtain ⟨a1, rfl, rfl, rfl, w1⟩ := open_int Tryd.underlying3 (hval 1 3 v1 rfl rfl) h1
  clear hA0 hval0
  refine (walk a0 len0 cap0 z0 W w0 a1 w1 (wd_of_laid hL)).mono fun e W' ⟨he, bel⟩ => ?_
  subst he
  exact ⟨_, rfl, _, _, _, [], _, [], hW', trodAll_mk1 (shut_bool Tryd.underlying4 _), (trodAll_cons_mk (Below.trod laidOut (by kernel_rfl) (of_decide_eq_true (by kernel_rfl)) k0 bel lt0) (trodAll_cons_mk (shut_int Tryd.underlying3 w1) trodAll_mk0)), rfl, bel.frame _, fun h => by cases h⟩

theorem over : Rows.packerManyRow.holds Tryd.pinned (OpenSpec.ofChange Rows.packerManySpec) :=
  OpenClaim.holds_of_wide 4 Tryd.f4 rfl rfl rfl rfl rfl rfl rfl ⟨rfl, rfl, rfl, rfl, rfl⟩ rfl rfl rfl rfl rfl (by kernel_rfl) Tryd.func4 (by kernel_rfl)
    (of_decide_eq_true (by kernel_rfl)) (by unfold Func.isWrapper; first | (rw [if_pos (by decide +kernel)]; kernel_rfl) | (rw [if_neg (by decide +kernel)]; exact ⟨rfl, rfl⟩))
    (fun os started H enc _ => lifted os started H enc)

set_option maxRecDepth 100000 in
theorem proved : Rows.PackerManyCardSaid :=
  Claim7.holds_tied_plain_at .later [] [.data] true (true, _) false over (fun _ h => by cases h) (by kernel_rfl) (fun _ h => by cases h) packerMany_row_tie rfl ⟨rfl, rfl⟩ (by kernel_rfl) rfl
    (fun f fn hf hfn => by
      obtain rfl : f = 4 := Option.some.inj ((show Tryd.prog.funcNamed "clarion/clarionlaw15.PackerMany" = some 4 by kernel_rfl).symm.trans hf) |>.symm
      obtain rfl : fn = Tryd.f4 := (Option.some.inj (Tryd.func4.symm.trans hfn)).symm
      exact ⟨by kernel_rfl, fun j t ht => by
        rw [Tryd.params4] at ht
        have hm : t ∈ [34, 3] := by simpa using Array.mem_of_getElem? ht
        have hall : ([34, 3].all fun u => !Tryd.prog.wantsStandIn u) = true := by kernel_rfl
        exact (show Tryd.prog.wantsStandIn t = false by simpa using List.all_eq_true.1 hall t hm)⟩)
    (by kernel_rfl)
#print axioms proved
end Go.Proofs.YtaabfkffemnidaaDoor.packerMany
