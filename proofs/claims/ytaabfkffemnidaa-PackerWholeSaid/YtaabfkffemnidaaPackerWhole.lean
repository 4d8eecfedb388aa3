/-
  For any bodies and count PackerWhole returns true: the bytes of sections stand in the packets in order, each once, and sections begin where packets say; nothing that was there is changed. No condition.
-/
import Derived.Test.YtaabfkffemnidaaRows
import Derived.Test.YtaabfkffemnidaaPwMath
import Derived.Test.YtaabfkffemnidaaPrLaw
namespace Go.Proofs.Ytaabfkffemnidaa.packerWhole
open Go.ChangeShapes Go.WideShapes Go.ChangeAt Go.RowKit Gf Pk Pr
set_option maxRecDepth 100000
open Go.ChangeMaps (open_string shut_string)
set_option linter.unusedVariables false
/-- The sections of bodies. -/
def secsL (L : List (List UInt8)) : List (List UInt8) := L.map fun s => mdB (st s)
theorem secsL_length (L : List (List UInt8)) : (secsL L).length = L.length := List.length_map ..
theorem isN {α : Type} {T : RowT α} {w : World} {base : Nat} {v : Value} {l : List α} (h : OwnE T w base v l) {n : Nat} (hn : l.length = n) : ∃ a cap, v = .slice a n cap ∧ IsE T w a n l := by
  obtain ⟨a, cap, e, hi, _⟩ := h.is
  subst hn
  exact ⟨a, cap, e, hi⟩
theorem secs_next {L : List (List UInt8)} {k : Nat} (h : k < L.length) : secsL (L.take (k + 1)) = secsL (L.take k) ++ [mdB (st L[k])] := by
  unfold secsL; rw [List.take_add_one, List.getElem?_eq_getElem h, List.map_append]; rfl
/-- Where sections begin. -/
def begs (L : List (List UInt8)) (k : Nat) : List Int := (List.range k).map fun j => (pre (secsL L) j : Int)
theorem begs_length (L : List (List UInt8)) (k : Nat) : (begs L k).length = k := by simp [begs]
theorem begs_next (L : List (List UInt8)) (k : Nat) : begs L (k + 1) = begs L k ++ [(pre (secsL L) k : Int)] := by unfold begs; rw [List.range_succ, List.map_append]; rfl
theorem begs_get (L : List (List UInt8)) {k j : Nat} (h : j < k) : (begs L k)[j]? = some (pre (secsL L) j : Int) := by
  unfold begs; rw [List.getElem?_map, List.getElem?_range h]; rfl
theorem flat_pre (L : List (List UInt8)) (k : Nat) : (secsL (L.take k)).flatten.length = pre (secsL L) k := by
  rw [← pre_flat]; unfold secsL; rw [List.map_take]
theorem pre_le {L : List (List UInt8)} : ∀ k, (∀ x ∈ L.take k, x.length ≤ 1400) → (secsL (L.take k)).flatten.length ≤ 1412 * k
  | 0, _ => by simp [secsL]
  | k + 1, h => by
    by_cases hk : k < L.length
    · rw [secs_next hk, List.flatten_append, List.length_append, List.flatten_cons, List.flatten_nil, List.append_nil, mdB_length, st_size]
      have h1 := pre_le k fun x hx => h x (by rw [List.take_add_one]; exact List.mem_append_left _ hx)
      have h2 := h L[k] (by rw [List.take_add_one, List.getElem?_eq_getElem hk]; exact List.mem_append_right _ (List.mem_singleton.2 rfl))
      omega
    · have h1 := pre_le k fun x hx => h x (by rw [List.take_add_one]; exact List.mem_append_left _ hx)
      rw [List.take_of_length_le (by omega)] at h1 ⊢
      omega
structure PwIn (w : World) (L : List (List UInt8)) (k : Nat) (vl vb : Value) (wr : World) : Prop where
  l : OwnE rowT wr w.heap.size vl (secsL (L.take k))
  b : OwnE rowZ wr w.heap.size vb (begs L k)
  a : ∀ g, vl.ownBlock = some g → vb.ownBlock ≠ some g
  kp : Keeps w wr
  c : ∀ x ∈ L.take k, x.length ≤ 1400
def pwRel (w : World) (L : List (List UInt8)) (all vl vb i : Value) (wr : World) : Prop := ∃ k : Nat, k ≤ L.length ∧ i = .int .i64 (k : Int) ∧ all = .string (st (secsL (L.take k)).flatten) ∧ PwIn w L k vl vb wr
def pvRel (wB : World) (K : List (List UInt8)) (at' begun i : Value) (wr : World) : Prop := ∃ i' a b r : Nat, i = .int .i64 (i' : Int) ∧ at' = .int .i64 (a : Int) ∧ begun = .int .i64 (b : Int) ∧ PwSt K i' a b r ∧ r ≤ 4096 ∧ Keeps wB wr
def pjRel (wX : World) (k m : Nat) (j : Value) (wr : World) : Prop := ∃ j' : Nat, k ≤ j' ∧ j' ≤ m ∧ j = .int .i64 (j' : Int) ∧ Eqv wX wr
def pcRel (wX : World) (b b' : Nat) (c : Value) (wr : World) : Prop := ∃ c' : Nat, b ≤ c' ∧ c' ≤ b' ∧ c = .int .i64 (c' : Int) ∧ Eqv wX wr
set_option maxHeartbeats 25600000 in
theorem walk (a : Option Addr) (len cap : Nat) (L : List (List UInt8)) (w : World) (hI0 : IsT w a len L ∧ len ≤ cap) (count : Int) (hcn : (Lit.int .i64 count).wf = true) :
    Calls Try.prog 4 #[.slice a len cap, .int .i64 count] w fun e w' => e = .returned (.bool true) ∧ Below w.heap.size w w' := by
  have HW := Lib.hid (fun W => awake15_any W W (Keeps.refl W))
  have HK := Lib.hid (Keeps.refl w)
  obtain ⟨hI, -⟩ := hI0
  obtain ⟨N, hN⟩ : ∃ N, L.length = N := ⟨_, rfl⟩
  have hll : len = N := by rw [← hN]; exact hI.1
  subst hll
  have HI := Lib.hid hI
  have HN := Lib.hid hN
  clear hI hN hcn
  by_cases h6 : 20 < len
  · have hi : (20 : Int) < (len : Int) := by omega
    go_enter Try.func4, Try.ntmps4
    go_wp2_with (first | (go_at_call 7; refine (HW.out _).mono ?_; rintro _ w9 ⟨rfl, k9⟩; have HK := Lib.hid (HK.out.trans k9); clear k9))
    go_ret
    exact ⟨rfl, HK.out⟩
  have hi : ¬ (20 : Int) < (len : Int) := by omega
  by_cases h0 : count < 0
  · go_enter Try.func4, Try.ntmps4
    go_wp2_with (first | (go_at_call 7; refine (HW.out _).mono ?_; rintro _ w9 ⟨rfl, k9⟩; have HK := Lib.hid (HK.out.trans k9); clear k9))
    go_ret
    exact ⟨rfl, HK.out⟩
  by_cases h15 : 15 < count
  · go_enter Try.func4, Try.ntmps4
    go_wp2_with (first | (go_at_call 7; refine (HW.out _).mono ?_; rintro _ w9 ⟨rfl, k9⟩; have HK := Lib.hid (HK.out.trans k9); clear k9))
    go_ret
    exact ⟨rfl, HK.out⟩
  go_enter Try.func4, Try.ntmps4
  go_wp2
  go_loopw [5, 6, 7, 8] (fun all vl vb i wr => pwRel w L all vl vb i wr) (fun _ _ _ i _ => len - (intOf i).toNat)
  case atStart => exact ⟨0, Nat.zero_le _, rfl, rfl, ⟨OwnE.nil _ _, OwnE.nil _ _, (fun g hg => by cases hg), Keeps.refl w, by simp⟩⟩
  case round =>
    obtain ⟨k, hk, rfl, rfl, hp⟩ := hrel
    rw [HN.out] at hk
    have hsb := pre_le k hp.c
    have hsq := flat_pre L k
    have HP := Lib.hid hp
    clear hp
    by_cases hlt : k < len
    · have hlI : (k : Int) < (len : Int) := by omega
      have hkL : k < L.length := by rw [HN.out]; exact hlt
      obtain ⟨b1, off1, rfl, hc1⟩ := (HI.out.keeps HP.out.kp).get hkL
      have HT1 := Lib.hid (fun (W : World) (kk : Keeps w W) => show W.cell? ⟨b1, off1 + k, none⟩ = some (.string (st L[k])) by
        obtain ⟨b2, off2, e2, hc2⟩ := (HI.out.keeps kk).get hkL
        cases e2
        rw [List.getD_eq_getElem?_getD, List.getElem?_eq_getElem hkL] at hc2
        simpa only [Option.getD_some] using hc2)
      rw [List.getD_eq_getElem?_getD, List.getElem?_eq_getElem hkL] at hc1
      simp only [Option.getD_some] at hc1
      have HX1 := Lib.hid (secs_next hkL)
      have HX2 := Lib.hid (begs_next L k)
      have HTK := Lib.hid (show L[k].length ≤ 1400 → ∀ x ∈ L.take (k + 1), x.length ≤ 1400 from fun h x hx => by
        rw [List.take_add_one, List.getElem?_eq_getElem hkL] at hx
        rcases List.mem_append.1 hx with y | y
        · exact HP.out.c x y
        · rw [List.mem_singleton.1 y]; exact h)
      obtain ⟨n, hn⟩ : ∃ n, L[k].length = n := ⟨_, rfl⟩
      rw [hn] at HTK
      obtain ⟨T, hT⟩ : ∃ T, st L[k] = T := ⟨_, rfl⟩
      have hTz : T.size = n := by rw [← hT, st_size]; exact hn
      rw [hT] at hc1 HX1 HT1
      clear hn hT
      by_cases h14 : 1400 < n
      · have h14i : (1400 : Int) < (T.size : Int) := by omega
        have HK := Lib.hid HP.out.kp
        clear hTz
        go_wp2_with (first | (go_at_call 7; refine (HW.out _).mono ?_; rintro _ w9 ⟨rfl, k9⟩; have HK := Lib.hid (HK.out.trans k9); clear k9))
        go_ret
        exact ⟨rfl, HK.out⟩
      · have h14i : ¬ (1400 : Int) < (T.size : Int) := by omega
        replace HTK := Lib.hid (HTK.out (by omega))
        have HMD := Lib.hid (fun W => prmade_any W T W (by omega) (Keeps.refl W))
        have hYz0 := mdB_length T
        obtain ⟨M, hM⟩ : ∃ M, mdB T = M := ⟨_, rfl⟩
        rw [hM] at HMD HX1 hYz0
        obtain ⟨Y, hY⟩ : ∃ Y, st M = Y := ⟨_, rfl⟩
        have hYz : Y.size = n + 12 := by rw [← hY, st_size, hYz0, hTz]
        have HY := Lib.hid hY
        simp only [hY] at HMD
        have hl1 := secsL_length (L.take k)
        rw [List.length_take, HN.out, Nat.min_eq_left hk] at hl1
        have HL1 := Lib.hid hl1
        have HL2 := Lib.hid (begs_length L k)
        have HLN := Lib.hid (show (secsL (L.take k) ++ [M]).length = k + 1 by rw [List.length_append, hl1]; rfl)
        have HGT := Lib.hid (show (secsL (L.take k) ++ [M]).getD k [] = M by rw [List.getD_eq_getElem?_getD, List.getElem?_append_right (by omega), hl1, Nat.sub_self]; rfl)
        obtain ⟨S1, hS1⟩ : ∃ S1, st (secsL (L.take k)).flatten = S1 := ⟨_, rfl⟩
        have hS1z : S1.size = pre (secsL L) k := by rw [← hS1, st_size, hsq]
        have HQ := Lib.hid hS1z
        have HUT := Lib.hid (show S1 ++ Y = st (secsL (L.take k) ++ [M]).flatten by rw [← hS1, ← hY, st_append, List.flatten_append]; simp)
        have wr1 := wrapI (a := (k : Int) + 1) (by omega) (by omega)
        have f1 : ¬ 9223372036854775807 < S1.size + Y.size := by rw [hS1z, ← hsq, hYz]; omega
        rw [hS1]
        clear hM hY hYz0 hl1 hYz hTz hS1 hS1z hsq hsb
        go_wp2_with (first | (at_builtin; refine wp_pushE (T := rowZ) rfl _ _ rfl (S1.size : Int) #[.int .i64 (S1.size : Int)] rfl wr.heap.size rfl HP.out.b rfl rfl (by rw [HL2.out]; omega) (Below.size HP.out.kp) 3 ?_; intro v3 w3 o3 g3 at3; have HB3 := Lib.hid o3; have HL3 := Lib.hid ((HP.out.l.keeps ((Keeps.refl wr).alloc (.cells #[.int .i64 (S1.size : Int)] 3))).stays g3 (fun b hb e => HP.out.a b e hb)); have HK3 := Lib.hid ((HP.out.kp.alloc (.cells #[.int .i64 (S1.size : Int)] 3)).grown g3 HP.out.b.block); have hc3 := HT1.out w3 HK3.out; have HA3 := Lib.hid (show ∀ g, u6.ownBlock = some g → v3.ownBlock ≠ some g from fun g hg e => at3.elim (fun z => HP.out.a g hg (by rw [← z]; exact e)) (fun z => by rw [z] at e; have := HP.out.l.old hg; injection e with e; omega)); clear o3 g3 at3) | (go_at_call 13; refine (HMD.out _).mono ?_; rintro _ w4 ⟨rfl, k4⟩; have HL4 := Lib.hid (HL3.out.keeps k4); have HB4 := Lib.hid (HB3.out.keeps k4); have HK4 := Lib.hid (HK3.out.trans k4); clear k4) | (at_builtin; refine wp_pushE (T := rowT) rfl _ _ rfl M #[.string Y] (by rw [← HY.out]; rfl) w4.heap.size rfl HL4.out rfl rfl (by rw [HL1.out]; omega) (Below.size HK4.out) 9 ?_; intro v5 w5 o5 g5 at5; obtain ⟨a5, cap5, rfl, hI5⟩ := isN o5 HLN.out; obtain ⟨b5, off5, rfl, hc5⟩ := hI5.texts.get (k := k) (by rw [HLN.out]; omega); rw [HGT.out, HY.out] at hc5; have HL5 := Lib.hid o5; have HB5 := Lib.hid ((HB4.out.keeps ((Keeps.refl w4).alloc (.cells #[.string Y] 9))).stays g5 (fun b hb => HA3.out b hb)); have HK5 := Lib.hid ((HK4.out.alloc (.cells #[.string Y] 9)).grown g5 HL4.out.block); have HA5 := Lib.hid (show ∀ g, Value.ownBlock (.slice (some ⟨b5, off5, none⟩) (k + 1) cap5) = some g → v3.ownBlock ≠ some g from fun g hg e => at5.elim (fun z => HA3.out g (z ▸ hg) e) (fun z => by rw [z] at hg; have := HB4.out.old e; injection hg with hg; omega)); clear o5 g5 at5 hI5))
        go_roundw
        case rel => exact ⟨k + 1, by rw [HN.out]; omega, by go_num, by rw [HX1.out, ← HUT.out], ⟨by rw [HX1.out]; exact HL5.out, by rw [HX2.out, ← HQ.out]; exact HB5.out, HA5.out, HK5.out, HTK.out⟩⟩
        case measure => simp [intOf]; omega
    · have hkl : k = len := by omega
      have htk : L.take k = L := List.take_of_length_le (by rw [HN.out]; omega)
      have hcA := HP.out.c
      have HL := Lib.hid HP.out.l
      have HBG := Lib.hid HP.out.b
      rw [htk] at hcA hsb HL
      rw [htk]
      have hsec : ∀ s ∈ secsL L, ck15 s = 0 ∧ 12 ≤ s.length ∧ s.length ≤ 4096 := fun s hs => by
        obtain ⟨x, hx, rfl⟩ := List.mem_map.1 hs
        have h1 := hcA x hx
        have hk := mdB_ck (b := st x) (by rw [st_size]; omega)
        exact ⟨hk, ck15_good hk⟩
      have hp1 : ∀ s ∈ secsL L, 1 ≤ s.length ∧ s.length ≤ 4096 := fun s hs => ⟨by have := (hsec s hs).2.1; omega, (hsec s hs).2.2⟩
      have hok : okS 9 count := ⟨⟨by decide, by decide⟩, by omega, by omega⟩
      have hmb := (many_bound hp1).2
      have hKl := secsL_length L
      rw [HN.out] at hKl
      rw [hKl] at hmb
      obtain ⟨al, cl, rfl, hIl, hcl⟩ := isC HL.out (n := len) (by rw [secsL_length]; exact HN.out)
      obtain ⟨ab, cb, rfl, hIb⟩ := isN HBG.out (n := len) (by rw [begs_length]; omega)
      have HPA := Lib.hid (prpack_any 9 count (cap := cl) wr hIl.texts hcl (by rw [hKl]; omega) (fun s hs => by have := (hsec s hs).2.2; omega))
      unfold PaPost at HPA
      rw [paO_ok hok fun s hs => (hsec s hs).1] at HPA
      simp only [paL_length] at HPA
      have HPG := Lib.hid (fun i (hi : i < (bodies (secsL L)).length) => paL_get 9 count (secsL L) hi)
      have HPN := Lib.hid (paL_length 9 count (secsL L))
      have HBE := Lib.hid (fun j (hj : j < len) => begs_get L (k := k) (j := j) (by omega))
      have HBN := Lib.hid (show (begs L k).length = len by rw [begs_length]; exact hkl)
      obtain ⟨K, hK⟩ : ∃ K, secsL L = K := ⟨_, rfl⟩
      rw [hK] at HPA HPG HPN HBE hp1 hsec hmb hsb hKl
      rw [hK]
      have HP1 := Lib.hid hp1
      have HKL := Lib.hid hKl
      have HKW := Lib.hid HP.out.kp
      have HIB := Lib.hid hIb
      have htot : K.flatten.length ≤ 30000 := by omega
      obtain ⟨BG, hBG⟩ : ∃ BG, begs L k = BG := ⟨_, rfl⟩
      rw [hBG] at HBE HBN HIB
      obtain ⟨PL, hPL⟩ : ∃ PL, paL 9 count K = PL := ⟨_, rfl⟩
      rw [hPL] at HPA HPG HPN
      have HFZ := Lib.hid (st_size K.flatten)
      obtain ⟨S, hS⟩ : ∃ S, st K.flatten = S := ⟨_, rfl⟩
      rw [hS] at HFZ
      rw [hS]
      have HSS := Lib.hid (show ls S = K.flatten by rw [← hS, ls_st])
      obtain ⟨tot, ht⟩ : ∃ t, K.flatten.length = t := ⟨_, rfl⟩
      rw [ht] at htot hmb HFZ
      have HT := Lib.hid ht
      have hSz : S.size = tot := HFZ.out
      obtain ⟨B, hB⟩ : ∃ B, (bodies K).length = B := ⟨_, rfl⟩
      have HB := Lib.hid hB
      rw [hB] at HPA HPN hmb
      have hBB : B ≤ 1000 := by omega
      have hlI : ¬ (k : Int) < (len : Int) := by omega
      have wr3 := wrapI (a := (count : Int) + (B : Int)) (by omega) (by omega)
      have tm3 : ((count : Int) + (B : Int)).tmod 16 = (count + (B : Int)) % 16 := Int.tmod_eq_emod_of_nonneg (by omega)
      have wr4 := wrapI (a := (count + (B : Int)) % 16) (by omega) (by omega)
      clear hsec hp1 hKl hmb hIl hIb hK hBG hPL hS ht hB htk hcA hok hsb hsq HP HL HBG
      go_wp2_with (first | (go_at_call 8; refine HPA.out.mono ?_; rintro _ w2 ⟨a2, cap2, rfl, hi2, hc2, k2⟩; have HI2 := Lib.hid hi2; have HK2 := Lib.hid k2; clear k2 hi2 hc2))
      have HKB := Lib.hid (HKW.out.trans HK2.out)
      go_loopw [12, 13, 14] (fun at' begun i wr => pvRel w2 K at' begun i wr) (fun _ _ i _ => B - (intOf i).toNat)
      case atStart => exact ⟨0, 0, 0, 0, rfl, rfl, rfl, PwSt.start K, by omega, Keeps.refl _⟩
      case round =>
        obtain ⟨i, at0, b, r, rfl, rfl, rfl, hst, hr, hkw⟩ := hrel
        have hiB := hst.ji
        rw [HB.out] at hiB
        have hab := hst.ja
        rw [HT.out] at hab
        have hbl := hst.jb
        rw [HKL.out] at hbl
        have HST := Lib.hid hst
        have HKV := Lib.hid hkw
        clear hkw
        by_cases hilt : i < B
        · have hiI : (i : Int) < (B : Int) := by omega
          have hi0 : i < (bodies K).length := by rw [HB.out]; exact hilt
          obtain ⟨hat, k1, b', r', hbd, hr', hst', hbb, hpj, hif⟩ := hst.step HP1.out hr hi0
          rw [HT.out] at hat
          have hb'l := hst'.jb
          rw [HKL.out] at hb'l
          have hp0 := hst.jp
          have hp2 := hst'.jp
          have hPe : PL[i]'(by rw [HPN.out]; exact hilt) = pkAt 9 count (bodies K)[i] i := by
            have z := HPG.out i hi0
            rw [List.getElem?_eq_getElem (by rw [HPN.out]; exact hilt)] at z
            exact Option.some.inj z
          obtain ⟨pb, po, rfl, hpc⟩ := pkt_read HI2.out (i := i) (by rw [HPN.out]; exact hilt)
          rw [hPe] at hpc
          obtain ⟨⟨sb, bl⟩, hq⟩ : ∃ q, (bodies K)[i] = q := ⟨_, rfl⟩
          rw [hq] at hpc hbd hif
          unfold pkAt at hpc
          obtain ⟨kl, ka, kt, ke, kz⟩ := hbd
          simp only at kl ka kt ke kz hpc hif
          rw [HT.out] at ka ke
          obtain ⟨Bd, hBd⟩ : ∃ Bd, st bl = Bd := ⟨_, rfl⟩
          have hBz : Bd.size = bl.length := by rw [← hBd, st_size]
          have hBl : ls Bd = bl := by rw [← hBd, ls_st]
          rw [hBd] at hpc
          obtain ⟨cq, hcq⟩ : ∃ cq, (count + (i : Int)) % 16 = cq := ⟨_, rfl⟩
          rw [hcq] at hpc
          have HPC := Lib.hid hpc
          have wr5 := wrapI (a := (count : Int) + (i : Int)) (by omega) (by omega)
          have tm5 : ((count : Int) + (i : Int)).tmod 16 = cq := by rw [Int.tmod_eq_emod_of_nonneg (by omega)]; exact hcq
          have tm6 : ((count : Int) + (i : Int)) % 16 = cq := hcq
          have wr6 := wrapI (a := cq) (by omega) (by omega)
          have wr7 := wrapI (a := (i : Int) + 1) (by omega) (by omega)
          have wr8 := wrapI (a := (at0 : Int) + (k1 : Int)) (by omega) (by omega)
          have g1 : ¬ (184 : Int) < (Bd.size : Int) := by omega
          have g2 : ¬ (Bd.size : Int) < 183 := by omega
          have g3 : ¬ (S.size : Int) ≤ (at0 : Int) := by omega
          have wr9 := wrapI (a := (S.size : Int) - (at0 : Int)) (by omega) (by omega)
          have HST2 := Lib.hid hst'
          have HPJ := Lib.hid hpj
          have HP2 := Lib.hid hp2
          clear hst' hpj hPe hq hpc hcq hBd hi0 hst
          have hlen0 : 0 < len := by
            refine Classical.byContradiction fun x => ?_
            have := HKL.out
            have h0 : K = [] := List.length_eq_zero_iff.1 (by omega)
            have := HT.out
            rw [h0] at this; simp at this; omega
          obtain ⟨zb, zo, rfl, -, -⟩ := HIB.out.get (i := 0) (by rw [HBN.out]; omega)
          have HBC := Lib.hid (fun c (hc : c < len) (W : World) (kk : Keeps w2 W) => show W.cell? ⟨zb, zo + c, none⟩ = some (.int .i64 (pre K c : Int)) by
            obtain ⟨zb1, zo1, e1, -, hzc⟩ := (HIB.out.keeps (HK2.out.trans kk)).get (i := c) (by rw [HBN.out]; exact hc)
            have hze := HBE.out c hc
            rw [List.getElem?_eq_getElem (by rw [HBN.out]; exact hc)] at hze
            rw [Option.some.inj hze] at hzc
            cases e1
            have := hzc 0 _ rfl
            simpa [rowZ] using this)
          cases sb
          · simp only [Bool.false_eq_true, if_false, List.drop_zero, Nat.sub_zero] at kt ke kz hif
            have HBQ := Lib.hid hif
            clear hif
            have HKZ := Lib.hid (fun j (h1 : k1 ≤ j) (h2 : j < Bd.size) => show cf (ls Bd) j = 255 by rw [hBl]; exact kz j h1 (by omega))
            have z1 : Bd.extract 0 k1 = st ((K.flatten.drop at0).take k1) := by rw [← st_ls (Bd.extract 0 k1), ls_part, hBl, List.drop_zero, Nat.sub_zero, kt]
            have z2 : S.extract at0 (at0 + k1) = st ((K.flatten.drop at0).take k1) := by rw [← st_ls (S.extract at0 (at0 + k1)), ls_part, HSS.out, Nat.add_sub_cancel_left]
            obtain ⟨Z, hZ⟩ : ∃ Z, st ((K.flatten.drop at0).take k1) = Z := ⟨_, rfl⟩
            rw [hZ] at z1 z2
            clear hZ
            by_cases hmin : Bd.size ≤ tot - at0
            · have hXn : Bd.size = k1 := by omega
              obtain ⟨Y, hYY⟩ : ∃ Y, tot - at0 = Y := ⟨_, rfl⟩
              have hsub : (tot : Int) - (at0 : Int) = (Y : Int) := by omega
              have hm1 : ¬ (Y : Int) < (k1 : Int) := by omega
              have hm2 : min (k1 : Int) (Y : Int) = (k1 : Int) := by omega
              have wry := wrapI (a := (Y : Int)) (by omega) (by omega)
              have g1 : ¬ (184 : Int) < (k1 : Int) := by omega
              have g2 : ¬ (k1 : Int) < 183 := by omega
              clear hYY
              have g3 : ¬ (tot : Int) ≤ (at0 : Int) := by omega
              have hkb : k1 ≤ Bd.size := by omega
              have hk1 : (k1 : Int) ≤ (k1 : Int) := by omega
              have hk2 : (at0 : Int) ≤ (at0 : Int) + (k1 : Int) := by omega
              have hk3 : (at0 : Int) + (k1 : Int) ≤ (tot : Int) := by omega
              have hk4 : at0 + k1 ≤ tot := by omega
              have hk5 : ((at0 : Int) + (k1 : Int)).toNat = at0 + k1 := by omega
              have hBb : Bd.size ≤ 184 := by omega
              have HBS := Lib.hid (show k1 = Bd.size from hXn.symm)
              clear ke kt kz hBz hBl
              go_wp2_with (first | (refine wp_ldP (b := pb) (off := po + i * 5) (s := ⟨9, false, cq, false, Bd⟩) (HPC.out wr HKV.out) rfl _ rfl rfl ?_))
              obtain ⟨xb, hxb⟩ : ∃ xb, wr.heap.size = xb := ⟨_, rfl⟩
              obtain ⟨wX, hX⟩ : ∃ wX, wr.alloc (.cells #[.int .i64 9, .bool false, .int .i64 cq, .bool false, .string Bd] 35) = wX := ⟨_, rfl⟩
              rw [hX, hxb]
              have HC0 := Lib.hid (show CsAt xb [.int .i64 9, .bool false, .int .i64 cq, .bool false, .string Bd] wX by rw [← hxb, ← hX]; exact CsAt.made wr #[.int .i64 9, .bool false, .int .i64 cq, .bool false, .string Bd] _ (by simp))
              have HKX := Lib.hid (show Keeps w2 wX by rw [← hX]; exact HKV.out.alloc _)
              clear hX hxb
              refine wp_draw (by kernel_rfl) [.string Bd, .int .i64 (k1 : Int), .string Z, .string S, .int .i64 (at0 : Int), .int .i64 (at0 : Int), .int .i64 (k1 : Int), .int .i64 ((at0 : Int) + (k1 : Int)), .string Z, .bool false]
                (fun _ W => Eqv wX W) rfl (by kernel_rfl) (fin := ?fin0) ?hfin0 (Eqv.drew wX) ?each0 ?hend0
              case hfin0 => simp [seqA, dstOf, Act.put]; rfl
              case each0 =>
                refine ⟨?_, ?_, ?_, ?_, ?_, ?_, ?_, ?_, ?_, ?_, trivial⟩
                all_goals intro X w5 h0 hd hs hw
                all_goals unfold Does
                all_goals go_simp
                all_goals first | exact fun L' k => hw | skip
              case hend0 =>
              intro X w5 hL hw
              have HW5 := Lib.hid hw
              clear hL hw z1 z2
              go_wp2
              go_loopw [19] (fun j wr => pjRel w5 k1 Bd.size j wr) (fun j _ => Bd.size - (intOf j).toNat)
              case atStart => exact ⟨k1, Nat.le_refl _, hkb, rfl, Eqv.refl _⟩
              case round =>
                obtain ⟨j, hj1, hj2, rfl, hwj⟩ := hrel
                have HWJ := Lib.hid hwj
                clear hwj
                by_cases hjl : j < Bd.size
                · have hjI : (j : Int) < (k1 : Int) := by have := HBS.out; omega
                  have g := ls_get Bd j hjl
                  rw [HKZ.out j hj1 hjl] at g
                  have wra := wrapI (a := (j : Int) + 1) (by omega) (by omega)
                  go_wp2
                  go_roundw
                  case rel => exact ⟨j + 1, by omega, by omega, by go_num, HWJ.out⟩
                  case measure => simp [intOf]; omega
                · have hjI : ¬ (j : Int) < (k1 : Int) := by have := HBS.out; omega
                  go_wp2
                  obtain ⟨wJ, hJ⟩ : ∃ wJ, wJ = wr := ⟨_, rfl⟩
                  subst hJ
                  go_loopw [13] (fun c wr => pcRel wJ b b' c wr) (fun c _ => b' - (intOf c).toNat)
                  case atStart => exact ⟨b, Nat.le_refl _, hbb, rfl, Eqv.refl _⟩
                  case round =>
                    obtain ⟨c, hc1, hc2, rfl, hwc⟩ := hrel
                    have HWC := Lib.hid (((HW5.out.trans HWJ.out).trans hwc))
                    have HWC2 := Lib.hid hwc
                    clear hwc
                    by_cases hcl : c < b'
                    · have hcI : (c : Int) < (len : Int) := by omega
                      have d1 := HBC.out c (by omega) wr (HKX.out.eqv HWC.out)
                      have hqk := HPJ.out c hc1 hcl
                      obtain ⟨q, hq⟩ : ∃ q, pre K c = q := ⟨_, rfl⟩
                      rw [hq] at d1 hqk
                      have hqI : (q : Int) < (at0 : Int) + (k1 : Int) := by omega
                      have wrb := wrapI (a := (c : Int) + 1) (by omega) (by omega)
                      clear hq hqk
                      go_wp2
                      go_roundw
                      case rel => exact ⟨c + 1, by omega, by omega, by go_num, HWC2.out⟩
                      case measure => simp [intOf]; omega
                    · obtain rfl : c = b' := by omega
                      have x1 : wr.cell? ⟨xb, 1, none⟩ = some (.bool false) := (HC0.out.eqv HWC.out).cell 1 rfl
                      have HNX := Lib.hid (show Keeps w2 wr from HKX.out.eqv HWC.out)
                      have hbI : ¬ (b : Int) < (c : Int) := by have := HBQ.out; omega
                      by_cases hcn : c < len
                      · have hcI : (c : Int) < (len : Int) := by omega
                        have d1 := HBC.out c hcn wr HNX.out
                        have hqk := HP2.out
                        obtain ⟨q, hq⟩ : ∃ q, pre K c = q := ⟨_, rfl⟩
                        rw [hq] at d1 hqk
                        have hqI : ¬ (q : Int) < (at0 : Int) + (k1 : Int) := by omega
                        clear hq hqk
                        go_wp2
                        go_roundw
                        case rel => exact ⟨i + 1, at0 + k1, c, r', by go_num, by go_num, rfl, HST2.out, hr', HNX.out⟩
                        case measure => simp [intOf]; omega
                      · have hcI : ¬ (c : Int) < (len : Int) := by omega
                        go_wp2
                        go_roundw
                        case rel => exact ⟨i + 1, at0 + k1, c, r', by go_num, by go_num, rfl, HST2.out, hr', HNX.out⟩
                        case measure => simp [intOf]; omega
            · have hsub : (tot : Int) - (at0 : Int) = (k1 : Int) := by omega
              have hm1 : (k1 : Int) < (Bd.size : Int) := by omega
              have hm2 : min (Bd.size : Int) (k1 : Int) = (k1 : Int) := by omega
              have wry := wrapI (a := (k1 : Int)) (by omega) (by omega)
              have g1 : ¬ (184 : Int) < (Bd.size : Int) := by omega
              have g2 : ¬ (Bd.size : Int) < 183 := by omega
              have g3 : ¬ (tot : Int) ≤ (at0 : Int) := by omega
              have hkb : k1 ≤ Bd.size := by omega
              have hk1 : (k1 : Int) ≤ (Bd.size : Int) := by omega
              have hk2 : (at0 : Int) ≤ (at0 : Int) + (k1 : Int) := by omega
              have hk3 : (at0 : Int) + (k1 : Int) ≤ (tot : Int) := by omega
              have hk4 : at0 + k1 ≤ tot := by omega
              have hk5 : ((at0 : Int) + (k1 : Int)).toNat = at0 + k1 := by omega
              have hBb : Bd.size ≤ 184 := by omega
              have HBS := Lib.hid (show Bd.size = Bd.size from rfl)
              clear ke kt kz hBz hBl
              go_wp2_with (first | (refine wp_ldP (b := pb) (off := po + i * 5) (s := ⟨9, false, cq, false, Bd⟩) (HPC.out wr HKV.out) rfl _ rfl rfl ?_))
              obtain ⟨xb, hxb⟩ : ∃ xb, wr.heap.size = xb := ⟨_, rfl⟩
              obtain ⟨wX, hX⟩ : ∃ wX, wr.alloc (.cells #[.int .i64 9, .bool false, .int .i64 cq, .bool false, .string Bd] 35) = wX := ⟨_, rfl⟩
              rw [hX, hxb]
              have HC0 := Lib.hid (show CsAt xb [.int .i64 9, .bool false, .int .i64 cq, .bool false, .string Bd] wX by rw [← hxb, ← hX]; exact CsAt.made wr #[.int .i64 9, .bool false, .int .i64 cq, .bool false, .string Bd] _ (by simp))
              have HKX := Lib.hid (show Keeps w2 wX by rw [← hX]; exact HKV.out.alloc _)
              clear hX hxb
              refine wp_draw (by kernel_rfl) [.string Bd, .int .i64 (k1 : Int), .string Z, .string S, .int .i64 (at0 : Int), .int .i64 (at0 : Int), .int .i64 (k1 : Int), .int .i64 ((at0 : Int) + (k1 : Int)), .string Z, .bool false]
                (fun _ W => Eqv wX W) rfl (by kernel_rfl) (fin := ?fin1) ?hfin1 (Eqv.drew wX) ?each1 ?hend1
              case hfin1 => simp [seqA, dstOf, Act.put]; rfl
              case each1 =>
                refine ⟨?_, ?_, ?_, ?_, ?_, ?_, ?_, ?_, ?_, ?_, trivial⟩
                all_goals intro X w5 h0 hd hs hw
                all_goals unfold Does
                all_goals go_simp
                all_goals first | exact fun L' k => hw | skip
              case hend1 =>
              intro X w5 hL hw
              have HW5 := Lib.hid hw
              clear hL hw z1 z2
              go_wp2
              go_loopw [19] (fun j wr => pjRel w5 k1 Bd.size j wr) (fun j _ => Bd.size - (intOf j).toNat)
              case atStart => exact ⟨k1, Nat.le_refl _, hkb, rfl, Eqv.refl _⟩
              case round =>
                obtain ⟨j, hj1, hj2, rfl, hwj⟩ := hrel
                have HWJ := Lib.hid hwj
                clear hwj
                by_cases hjl : j < Bd.size
                · have hjI : (j : Int) < (Bd.size : Int) := by have := HBS.out; omega
                  have g := ls_get Bd j hjl
                  rw [HKZ.out j hj1 hjl] at g
                  have wra := wrapI (a := (j : Int) + 1) (by omega) (by omega)
                  go_wp2
                  go_roundw
                  case rel => exact ⟨j + 1, by omega, by omega, by go_num, HWJ.out⟩
                  case measure => simp [intOf]; omega
                · have hjI : ¬ (j : Int) < (Bd.size : Int) := by have := HBS.out; omega
                  go_wp2
                  obtain ⟨wJ, hJ⟩ : ∃ wJ, wJ = wr := ⟨_, rfl⟩
                  subst hJ
                  go_loopw [13] (fun c wr => pcRel wJ b b' c wr) (fun c _ => b' - (intOf c).toNat)
                  case atStart => exact ⟨b, Nat.le_refl _, hbb, rfl, Eqv.refl _⟩
                  case round =>
                    obtain ⟨c, hc1, hc2, rfl, hwc⟩ := hrel
                    have HWC := Lib.hid (((HW5.out.trans HWJ.out).trans hwc))
                    have HWC2 := Lib.hid hwc
                    clear hwc
                    by_cases hcl : c < b'
                    · have hcI : (c : Int) < (len : Int) := by omega
                      have d1 := HBC.out c (by omega) wr (HKX.out.eqv HWC.out)
                      have hqk := HPJ.out c hc1 hcl
                      obtain ⟨q, hq⟩ : ∃ q, pre K c = q := ⟨_, rfl⟩
                      rw [hq] at d1 hqk
                      have hqI : (q : Int) < (at0 : Int) + (k1 : Int) := by omega
                      have wrb := wrapI (a := (c : Int) + 1) (by omega) (by omega)
                      clear hq hqk
                      go_wp2
                      go_roundw
                      case rel => exact ⟨c + 1, by omega, by omega, by go_num, HWC2.out⟩
                      case measure => simp [intOf]; omega
                    · obtain rfl : c = b' := by omega
                      have x1 : wr.cell? ⟨xb, 1, none⟩ = some (.bool false) := (HC0.out.eqv HWC.out).cell 1 rfl
                      have HNX := Lib.hid (show Keeps w2 wr from HKX.out.eqv HWC.out)
                      have hbI : ¬ (b : Int) < (c : Int) := by have := HBQ.out; omega
                      by_cases hcn : c < len
                      · have hcI : (c : Int) < (len : Int) := by omega
                        have d1 := HBC.out c hcn wr HNX.out
                        have hqk := HP2.out
                        obtain ⟨q, hq⟩ : ∃ q, pre K c = q := ⟨_, rfl⟩
                        rw [hq] at d1 hqk
                        have hqI : ¬ (q : Int) < (at0 : Int) + (k1 : Int) := by omega
                        clear hq hqk
                        go_wp2
                        go_roundw
                        case rel => exact ⟨i + 1, at0 + k1, c, r', by go_num, by go_num, rfl, HST2.out, hr', HNX.out⟩
                        case measure => simp [intOf]; omega
                      · have hcI : ¬ (c : Int) < (len : Int) := by omega
                        go_wp2
                        go_roundw
                        case rel => exact ⟨i + 1, at0 + k1, c, r', by go_num, by go_num, rfl, HST2.out, hr', HNX.out⟩
                        case measure => simp [intOf]; omega
          · simp only [if_true] at kt ke kz hif
            obtain ⟨hbn, hr182, hbb2, hy0⟩ := hif
            rw [HKL.out] at hbn
            have hz3 : 0 < Bd.size := by omega
            have g0 := ls_get Bd 0 hz3
            rw [hBl, hy0] at g0
            have gr : ((UInt8.ofNat r).toNat : Int) = (r : Int) := by rw [UInt8.toNat_ofNat_of_lt' (show r < 256 by omega)]
            obtain ⟨y, hy⟩ : ∃ y, UInt8.ofNat r = y := ⟨_, rfl⟩
            rw [hy] at g0 gr
            have wrr := wrapI (a := (r : Int)) (by omega) (by omega)
            have hz0 : (0 : Int) < (Bd.size : Int) := by omega
            have hz1 : (1 : Int) ≤ (Bd.size : Int) := by omega
            have hz2 : 1 ≤ Bd.size := by omega
            obtain ⟨Bd2, hB2⟩ : ∃ B, Bd.extract 1 Bd.size = B := ⟨_, rfl⟩
            have hbl2 : ls Bd2 = bl.drop 1 := by rw [← hB2, ls_part, hBl, List.take_of_length_le (by rw [List.length_drop]; omega)]
            have hB2z : Bd2.size = bl.length - 1 := by rw [ls_size, hbl2, List.length_drop]
            have d0 := HBC.out b hbn (wr.alloc (.cells #[.int .i64 9, .bool true, .int .i64 cq, .bool false, .string Bd] 35)) (HKV.out.alloc _)
            rw [← hp0] at d0
            obtain ⟨ar, har⟩ : ∃ ar, at0 + r = ar := ⟨_, rfl⟩
            rw [har] at d0
            have harI : (at0 : Int) + (r : Int) = (ar : Int) := by omega
            have wrs := wrapI (a := (ar : Int)) (by omega) (by omega)
            have hbnI : ¬ (len : Int) ≤ (b : Int) := by omega
            have hr2I : ¬ (182 : Int) < (r : Int) := by omega
            clear hy0 har hy
            have HKZ := Lib.hid (fun j (h1 : k1 ≤ j) (h2 : j < Bd2.size) => show cf (ls Bd2) j = 255 by rw [hbl2]; exact kz j h1 (by omega))
            have z1 : Bd2.extract 0 k1 = st ((K.flatten.drop at0).take k1) := by rw [← st_ls (Bd2.extract 0 k1), ls_part, hbl2, List.drop_zero, Nat.sub_zero, kt]
            have z2 : S.extract at0 (at0 + k1) = st ((K.flatten.drop at0).take k1) := by rw [← st_ls (S.extract at0 (at0 + k1)), ls_part, HSS.out, Nat.add_sub_cancel_left]
            obtain ⟨Z, hZ⟩ : ∃ Z, st ((K.flatten.drop at0).take k1) = Z := ⟨_, rfl⟩
            rw [hZ] at z1 z2
            clear hZ hbl2
            by_cases hmin : Bd2.size ≤ tot - at0
            · have hXn : Bd2.size = k1 := by omega
              obtain ⟨Y, hYY⟩ : ∃ Y, tot - at0 = Y := ⟨_, rfl⟩
              have hsub : (tot : Int) - (at0 : Int) = (Y : Int) := by omega
              have hm1 : ¬ (Y : Int) < (k1 : Int) := by omega
              have hm2 : min (k1 : Int) (Y : Int) = (k1 : Int) := by omega
              have wry := wrapI (a := (Y : Int)) (by omega) (by omega)
              have g1 : ¬ (184 : Int) < (Bd.size : Int) := by omega
              have g2 : ¬ (Bd.size : Int) < 183 := by omega
              clear hYY
              have g3 : ¬ (tot : Int) ≤ (at0 : Int) := by omega
              have hkb : k1 ≤ Bd2.size := by omega
              have hk1 : (k1 : Int) ≤ (k1 : Int) := by omega
              have hk2 : (at0 : Int) ≤ (at0 : Int) + (k1 : Int) := by omega
              have hk3 : (at0 : Int) + (k1 : Int) ≤ (tot : Int) := by omega
              have hk4 : at0 + k1 ≤ tot := by omega
              have hk5 : ((at0 : Int) + (k1 : Int)).toNat = at0 + k1 := by omega
              have hBb : Bd2.size ≤ 184 := by omega
              have HBS := Lib.hid (show k1 = Bd2.size from hXn.symm)
              clear ke kt kz hBz hBl hB2z
              go_wp2_with (first | (refine wp_ldP (b := pb) (off := po + i * 5) (s := ⟨9, true, cq, false, Bd⟩) (HPC.out wr HKV.out) rfl _ rfl rfl ?_))
              obtain ⟨xb, hxb⟩ : ∃ xb, wr.heap.size = xb := ⟨_, rfl⟩
              obtain ⟨wX, hX⟩ : ∃ wX, wr.alloc (.cells #[.int .i64 9, .bool true, .int .i64 cq, .bool false, .string Bd] 35) = wX := ⟨_, rfl⟩
              rw [hX, hxb]
              have HC0 := Lib.hid (show CsAt xb [.int .i64 9, .bool true, .int .i64 cq, .bool false, .string Bd] wX by rw [← hxb, ← hX]; exact CsAt.made wr #[.int .i64 9, .bool true, .int .i64 cq, .bool false, .string Bd] _ (by simp))
              have HKX := Lib.hid (show Keeps w2 wX by rw [← hX]; exact HKV.out.alloc _)
              clear hX hxb
              refine wp_draw (by kernel_rfl) [.string Bd2, .int .i64 (k1 : Int), .string Z, .string S, .int .i64 (at0 : Int), .int .i64 (at0 : Int), .int .i64 (k1 : Int), .int .i64 ((at0 : Int) + (k1 : Int)), .string Z, .bool false]
                (fun _ W => Eqv wX W) rfl (by kernel_rfl) (fin := ?fin2) ?hfin2 (Eqv.drew wX) ?each2 ?hend2
              case hfin2 => simp [seqA, dstOf, Act.put]; rfl
              case each2 =>
                refine ⟨?_, ?_, ?_, ?_, ?_, ?_, ?_, ?_, ?_, ?_, trivial⟩
                all_goals intro X w5 h0 hd hs hw
                all_goals unfold Does
                all_goals go_simp
                all_goals first | exact fun L' k => hw | skip
              case hend2 =>
              intro X w5 hL hw
              have HW5 := Lib.hid hw
              clear hL hw z1 z2
              go_wp2
              go_loopw [19] (fun j wr => pjRel w5 k1 Bd2.size j wr) (fun j _ => Bd2.size - (intOf j).toNat)
              case atStart => exact ⟨k1, Nat.le_refl _, hkb, rfl, Eqv.refl _⟩
              case round =>
                obtain ⟨j, hj1, hj2, rfl, hwj⟩ := hrel
                have HWJ := Lib.hid hwj
                clear hwj
                by_cases hjl : j < Bd2.size
                · have hjI : (j : Int) < (k1 : Int) := by have := HBS.out; omega
                  have g := ls_get Bd2 j hjl
                  rw [HKZ.out j hj1 hjl] at g
                  have wra := wrapI (a := (j : Int) + 1) (by omega) (by omega)
                  go_wp2
                  go_roundw
                  case rel => exact ⟨j + 1, by omega, by omega, by go_num, HWJ.out⟩
                  case measure => simp [intOf]; omega
                · have hjI : ¬ (j : Int) < (k1 : Int) := by have := HBS.out; omega
                  go_wp2
                  obtain ⟨wJ, hJ⟩ : ∃ wJ, wJ = wr := ⟨_, rfl⟩
                  subst hJ
                  go_loopw [13] (fun c wr => pcRel wJ b b' c wr) (fun c _ => b' - (intOf c).toNat)
                  case atStart => exact ⟨b, Nat.le_refl _, hbb, rfl, Eqv.refl _⟩
                  case round =>
                    obtain ⟨c, hc1, hc2, rfl, hwc⟩ := hrel
                    have HWC := Lib.hid (((HW5.out.trans HWJ.out).trans hwc))
                    have HWC2 := Lib.hid hwc
                    clear hwc
                    by_cases hcl : c < b'
                    · have hcI : (c : Int) < (len : Int) := by omega
                      have d1 := HBC.out c (by omega) wr (HKX.out.eqv HWC.out)
                      have hqk := HPJ.out c hc1 hcl
                      obtain ⟨q, hq⟩ : ∃ q, pre K c = q := ⟨_, rfl⟩
                      rw [hq] at d1 hqk
                      have hqI : (q : Int) < (at0 : Int) + (k1 : Int) := by omega
                      have wrb := wrapI (a := (c : Int) + 1) (by omega) (by omega)
                      clear hq hqk
                      go_wp2
                      go_roundw
                      case rel => exact ⟨c + 1, by omega, by omega, by go_num, HWC2.out⟩
                      case measure => simp [intOf]; omega
                    · obtain rfl : c = b' := by omega
                      have x1 : wr.cell? ⟨xb, 1, none⟩ = some (.bool true) := (HC0.out.eqv HWC.out).cell 1 rfl
                      have HNX := Lib.hid (show Keeps w2 wr from HKX.out.eqv HWC.out)
                      have hbI : (b : Int) < (c : Int) := by omega
                      by_cases hcn : c < len
                      · have hcI : (c : Int) < (len : Int) := by omega
                        have d1 := HBC.out c hcn wr HNX.out
                        have hqk := HP2.out
                        obtain ⟨q, hq⟩ : ∃ q, pre K c = q := ⟨_, rfl⟩
                        rw [hq] at d1 hqk
                        have hqI : ¬ (q : Int) < (at0 : Int) + (k1 : Int) := by omega
                        clear hq hqk
                        go_wp2
                        go_roundw
                        case rel => exact ⟨i + 1, at0 + k1, c, r', by go_num, by go_num, rfl, HST2.out, hr', HNX.out⟩
                        case measure => simp [intOf]; omega
                      · have hcI : ¬ (c : Int) < (len : Int) := by omega
                        go_wp2
                        go_roundw
                        case rel => exact ⟨i + 1, at0 + k1, c, r', by go_num, by go_num, rfl, HST2.out, hr', HNX.out⟩
                        case measure => simp [intOf]; omega
            · have hsub : (tot : Int) - (at0 : Int) = (k1 : Int) := by omega
              have hm1 : (k1 : Int) < (Bd2.size : Int) := by omega
              have hm2 : min (Bd2.size : Int) (k1 : Int) = (k1 : Int) := by omega
              have wry := wrapI (a := (k1 : Int)) (by omega) (by omega)
              have g1 : ¬ (184 : Int) < (Bd.size : Int) := by omega
              have g2 : ¬ (Bd.size : Int) < 183 := by omega
              have g3 : ¬ (tot : Int) ≤ (at0 : Int) := by omega
              have hkb : k1 ≤ Bd2.size := by omega
              have hk1 : (k1 : Int) ≤ (Bd2.size : Int) := by omega
              have hk2 : (at0 : Int) ≤ (at0 : Int) + (k1 : Int) := by omega
              have hk3 : (at0 : Int) + (k1 : Int) ≤ (tot : Int) := by omega
              have hk4 : at0 + k1 ≤ tot := by omega
              have hk5 : ((at0 : Int) + (k1 : Int)).toNat = at0 + k1 := by omega
              have hBb : Bd2.size ≤ 184 := by omega
              have HBS := Lib.hid (show Bd2.size = Bd2.size from rfl)
              clear ke kt kz hBz hBl hB2z
              go_wp2_with (first | (refine wp_ldP (b := pb) (off := po + i * 5) (s := ⟨9, true, cq, false, Bd⟩) (HPC.out wr HKV.out) rfl _ rfl rfl ?_))
              obtain ⟨xb, hxb⟩ : ∃ xb, wr.heap.size = xb := ⟨_, rfl⟩
              obtain ⟨wX, hX⟩ : ∃ wX, wr.alloc (.cells #[.int .i64 9, .bool true, .int .i64 cq, .bool false, .string Bd] 35) = wX := ⟨_, rfl⟩
              rw [hX, hxb]
              have HC0 := Lib.hid (show CsAt xb [.int .i64 9, .bool true, .int .i64 cq, .bool false, .string Bd] wX by rw [← hxb, ← hX]; exact CsAt.made wr #[.int .i64 9, .bool true, .int .i64 cq, .bool false, .string Bd] _ (by simp))
              have HKX := Lib.hid (show Keeps w2 wX by rw [← hX]; exact HKV.out.alloc _)
              clear hX hxb
              refine wp_draw (by kernel_rfl) [.string Bd2, .int .i64 (k1 : Int), .string Z, .string S, .int .i64 (at0 : Int), .int .i64 (at0 : Int), .int .i64 (k1 : Int), .int .i64 ((at0 : Int) + (k1 : Int)), .string Z, .bool false]
                (fun _ W => Eqv wX W) rfl (by kernel_rfl) (fin := ?fin3) ?hfin3 (Eqv.drew wX) ?each3 ?hend3
              case hfin3 => simp [seqA, dstOf, Act.put]; rfl
              case each3 =>
                refine ⟨?_, ?_, ?_, ?_, ?_, ?_, ?_, ?_, ?_, ?_, trivial⟩
                all_goals intro X w5 h0 hd hs hw
                all_goals unfold Does
                all_goals go_simp
                all_goals first | exact fun L' k => hw | skip
              case hend3 =>
              intro X w5 hL hw
              have HW5 := Lib.hid hw
              clear hL hw z1 z2
              go_wp2
              go_loopw [19] (fun j wr => pjRel w5 k1 Bd2.size j wr) (fun j _ => Bd2.size - (intOf j).toNat)
              case atStart => exact ⟨k1, Nat.le_refl _, hkb, rfl, Eqv.refl _⟩
              case round =>
                obtain ⟨j, hj1, hj2, rfl, hwj⟩ := hrel
                have HWJ := Lib.hid hwj
                clear hwj
                by_cases hjl : j < Bd2.size
                · have hjI : (j : Int) < (Bd2.size : Int) := by have := HBS.out; omega
                  have g := ls_get Bd2 j hjl
                  rw [HKZ.out j hj1 hjl] at g
                  have wra := wrapI (a := (j : Int) + 1) (by omega) (by omega)
                  go_wp2
                  go_roundw
                  case rel => exact ⟨j + 1, by omega, by omega, by go_num, HWJ.out⟩
                  case measure => simp [intOf]; omega
                · have hjI : ¬ (j : Int) < (Bd2.size : Int) := by have := HBS.out; omega
                  go_wp2
                  obtain ⟨wJ, hJ⟩ : ∃ wJ, wJ = wr := ⟨_, rfl⟩
                  subst hJ
                  go_loopw [13] (fun c wr => pcRel wJ b b' c wr) (fun c _ => b' - (intOf c).toNat)
                  case atStart => exact ⟨b, Nat.le_refl _, hbb, rfl, Eqv.refl _⟩
                  case round =>
                    obtain ⟨c, hc1, hc2, rfl, hwc⟩ := hrel
                    have HWC := Lib.hid (((HW5.out.trans HWJ.out).trans hwc))
                    have HWC2 := Lib.hid hwc
                    clear hwc
                    by_cases hcl : c < b'
                    · have hcI : (c : Int) < (len : Int) := by omega
                      have d1 := HBC.out c (by omega) wr (HKX.out.eqv HWC.out)
                      have hqk := HPJ.out c hc1 hcl
                      obtain ⟨q, hq⟩ : ∃ q, pre K c = q := ⟨_, rfl⟩
                      rw [hq] at d1 hqk
                      have hqI : (q : Int) < (at0 : Int) + (k1 : Int) := by omega
                      have wrb := wrapI (a := (c : Int) + 1) (by omega) (by omega)
                      clear hq hqk
                      go_wp2
                      go_roundw
                      case rel => exact ⟨c + 1, by omega, by omega, by go_num, HWC2.out⟩
                      case measure => simp [intOf]; omega
                    · obtain rfl : c = b' := by omega
                      have x1 : wr.cell? ⟨xb, 1, none⟩ = some (.bool true) := (HC0.out.eqv HWC.out).cell 1 rfl
                      have HNX := Lib.hid (show Keeps w2 wr from HKX.out.eqv HWC.out)
                      have hbI : (b : Int) < (c : Int) := by omega
                      by_cases hcn : c < len
                      · have hcI : (c : Int) < (len : Int) := by omega
                        have d1 := HBC.out c hcn wr HNX.out
                        have hqk := HP2.out
                        obtain ⟨q, hq⟩ : ∃ q, pre K c = q := ⟨_, rfl⟩
                        rw [hq] at d1 hqk
                        have hqI : ¬ (q : Int) < (at0 : Int) + (k1 : Int) := by omega
                        clear hq hqk
                        go_wp2
                        go_roundw
                        case rel => exact ⟨i + 1, at0 + k1, c, r', by go_num, by go_num, rfl, HST2.out, hr', HNX.out⟩
                        case measure => simp [intOf]; omega
                      · have hcI : ¬ (c : Int) < (len : Int) := by omega
                        go_wp2
                        go_roundw
                        case rel => exact ⟨i + 1, at0 + k1, c, r', by go_num, by go_num, rfl, HST2.out, hr', HNX.out⟩
                        case measure => simp [intOf]; omega
        · have hiI : ¬ (i : Int) < (B : Int) := by omega
          have hdn := HST.out.done (by rw [HB.out]; exact hilt)
          rw [HT.out] at hdn
          have hdI : (at0 : Int) = (tot : Int) := by omega
          have hdB : ((tot : Int) == (tot : Int)) = true := by simp
          have HK := Lib.hid (HKB.out.trans HKV.out)
          subst hdn
          go_wp2_with (first | (go_at_call 7; refine (HW.out _).mono ?_; rintro _ w9 ⟨rfl, k9⟩; have HK := Lib.hid (HK.out.trans k9); clear k9))
          go_ret
          exact ⟨rfl, HK.out⟩


theorem own : ownKnob Try.prog.godebug = none := by kernel_rfl
theorem laidOut : laidOutB Try.prog = true := by kernel_rfl
set_option maxRecDepth 100000 in
theorem lifted (os : Os) (started : os.Started) (H : Type) (enc : TypeId × Value → H) :
    ReturnsInHanded {} Try.checked os 4 .any (Rows.packerWholeSpec.pre6 enc Try.prog Try.f4 Rows.packerWholeRow.domain false) (Rows.packerWholeSpec.post enc Try.prog Try.f4 false true false false) := by
  refine returnsInHanded_of_change (C := Try.checked) own started (by kernel_rfl) Try.func4
    (ChangeSpec.witness6 (enc := enc) (C := Try.checked) false ⟨#[], #[.slice none 0 0, .int .i64 0], []⟩ 8 (by kernel_rfl) (by kernel_rfl) (by kernel_rfl) (by kernel_rfl)) ?_
  intro W base args ds gs before hval0 hW hcnd _
  have hval : ∀ (j : Nat) t v, Try.f4.params[j]? = some t → args[j]? = some v → Value.okWide Try.prog W .any base t v := hval0
  have hW' := hW
  obtain ⟨p, q, hA0, hV, rfl, hfz, hnd⟩ := hW
  have hA : DataW.TrodAll enc Try.prog W 0 (fun _ => true) true Try.f4.params.toList args.toList ds p := hA0
  rw [Try.params4] at hA hval
  obtain ⟨v0, vs0, d0, ds0, p0, q0, hargs, rfl, rfl, h0, r0⟩ := trodAll_cons hA
  obtain ⟨v1, vs1, d1, ds1, p1, q1, rfl, rfl, rfl, h1, r1⟩ := trodAll_cons r0
  obtain ⟨rfl, rfl, rfl⟩ := trodAll_nil r1
  obtain rfl : args = #[v0, v1] := by cases args; simp_all
  obtain ⟨rfl, rfl⟩ := trodVars_none hV
  obtain ⟨a0, len0, cap0, rfl⟩ := okWide_slice Try.underlying22 (hval 0 22 v0 rfl rfl)
  have k0 := h0
  have lt0 : ∀ x ∈ p0, x.block < W.heap.size := by obtain ⟨m, hm⟩ := k0; exact DataW.trod_lt m _ _ _ hm
  obtain ⟨z0, w0⟩ := open_trow h0
  obtain ⟨a1, rfl, rfl, rfl, w1⟩ := open_int Try.underlying3 (hval 1 3 v1 rfl rfl) h1
  clear hA0 hval0
  refine (walk a0 len0 cap0 z0 W w0 a1 w1).mono fun e W' ⟨he, bel⟩ => ?_
  subst he
  exact ⟨_, rfl, _, _, _, [], _, [], hW', trodAll_mk1 (shut_bool Try.underlying4 _), (trodAll_cons_mk (Below.trod laidOut (by kernel_rfl) (of_decide_eq_true (by kernel_rfl)) k0 bel lt0) (trodAll_cons_mk (shut_int Try.underlying3 w1) trodAll_mk0)), rfl, bel.frame _, fun h => by cases h⟩

theorem over : Rows.packerWholeRow.holds Try.pinned (OpenSpec.ofChange Rows.packerWholeSpec) :=
  OpenClaim.holds_of_wide 4 Try.f4 rfl rfl rfl rfl rfl rfl rfl ⟨rfl, rfl, rfl, rfl, rfl⟩ rfl rfl rfl rfl rfl (by kernel_rfl) Try.func4 (by kernel_rfl)
    (of_decide_eq_true (by kernel_rfl)) (by unfold Func.isWrapper; first | (rw [if_pos (by decide +kernel)]; kernel_rfl) | (rw [if_neg (by decide +kernel)]; exact ⟨rfl, rfl⟩))
    (fun os started H enc _ => lifted os started H enc)

theorem proved : Rows.PackerWholeSaid := over
#print axioms proved
end Go.Proofs.Ytaabfkffemnidaa.packerWhole
