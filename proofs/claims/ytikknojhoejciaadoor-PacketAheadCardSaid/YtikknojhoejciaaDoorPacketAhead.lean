/-
  For any packets and bytes PacketAhead returns true: packets that stand behind fewer than 188 other bytes are found there, or ahead, and what is found is where all packets begin; nothing that was there is changed. The table of widths of package packet starts as the program lays it.
-/
import Derived.SevenTiedAt
import Derived.Test.YtikknojhoejciaaDoorRows
import Derived.Test.YtikknojhoejciaaDoorCards
import Derived.Test.YtikknojhoejciaaDoorTie
import Derived.Test.YtikknojhoejciaaDoorPkLaid
import Derived.Test.YtikknojhoejciaaDoorPkLaw
namespace Go.Proofs.YtikknojhoejciaaDoor.packetAhead
open Go.ChangeShapes Go.WideShapes Go.ChangeAt Go.RowKit Gf Pk
set_option maxRecDepth 100000
open Go.ChangeMaps (open_string shut_string)
set_option linter.unusedVariables false
/-- Some bytes, and the first packets' behind them. -/
def ahF (s : List UInt8) (l : List Pkt) (k : Nat) : List UInt8 := s ++ ((l.take k).map bts).flatten
theorem ah_zero (s : List UInt8) (l : List Pkt) : ahF s l 0 = s := by unfold ahF; simp
theorem ah_next (s : List UInt8) (l : List Pkt) {k : Nat} (h : k < l.length) : ahF s l k ++ bts l[k] = ahF s l (k + 1) := by
  unfold ahF
  rw [List.take_add_one, List.getElem?_eq_getElem h, List.map_append, List.flatten_append, List.append_assoc]
  simp
theorem ah_length {s : List UInt8} {l : List Pkt} : ∀ {k : Nat}, k ≤ l.length → (∀ p ∈ l.take k, ckP p = 0) → (ahF s l k).length = s.length + 188 * k
  | 0, _, _ => by rw [ah_zero]; rfl
  | k + 1, h, hc => by
    have h1 := ah_length (s := s) (l := l) (k := k) (by omega) fun p hp => hc p (by rw [List.take_add_one]; exact List.mem_append_left _ hp)
    have h2 := hc l[k] (by rw [List.take_add_one, List.getElem?_eq_getElem (show k < l.length by omega)]; exact List.mem_append_right _ (List.mem_singleton.2 rfl))
    rw [← ah_next s l (show k < l.length by omega), List.length_append, h1, bts_length (ckP_good h2).2]
    omega
theorem ah_math {s : List UInt8} {l : List Pkt} (hs : s.length ≤ 187) (hl : 0 < l.length) (hc : ∀ p ∈ l, ckP p = 0) :
    ∃ a, fnd (ahF s l l.length) = some a ∧ a ≤ s.length ∧ goodL ((ahF s l l.length).drop a) 0 := by
  have hlen := ah_length (s := s) (l := l) (k := l.length) (Nat.le_refl _) (by rw [List.take_length]; exact hc)
  have hg : goodL (ahF s l l.length) s.length := by
    unfold ahF
    rw [List.take_length]
    refine good_behind (good_packets _ fun x hx => ?_).2
    obtain ⟨p, hp, rfl⟩ := List.mem_map.1 hx
    exact ⟨bts_length (ckP_good (hc p hp)).2, bts_0 p⟩
  have hi := fnd_is (ahF s l l.length)
  obtain ⟨r, hr⟩ : ∃ r, fnd (ahF s l l.length) = r := ⟨_, rfl⟩
  rw [hr] at hi
  cases r with
  | none => exact absurd hg (hi s.length (by omega) (by omega))
  | some a =>
    refine ⟨a, hr, ?_, good_from hi.2.2.1⟩
    rcases Nat.lt_or_ge s.length a with h | h
    · exact absurd hg (hi.2.2.2 _ h)
    · exact h
theorem pkt_range {W : World} {a : Option Addr} {len : Nat} {l : List Pkt} (h : IsE pktT W a len l) {i : Nat} (hi : i < l.length) : ∃ b off, a = some ⟨b, off, none⟩ ∧ ∀ W', Keeps W W' → W'.rangeAt b (off + i * 5) (pkC l[i]) := by
  obtain ⟨b, off, ha, hb, hc⟩ := h.get hi
  exact ⟨b, off, ha, fun W' k j v hj => by rw [Nat.add_assoc]; exact (Below.cell k (p := ⟨b, off + (i * 5 + j), none⟩) hb).trans (hc j v hj)⟩
def ahRel (w : World) (s : List UInt8) (l : List Pkt) (all i : Value) (wr : World) : Prop := ∃ k : Nat, k ≤ l.length ∧ i = .int .i64 (k : Int) ∧ all = .string (st (ahF s l k)) ∧ (∀ p ∈ l.take k, ckP p = 0) ∧ Keeps w wr
def lqRel (wA : World) (N : Nat) (i : Value) (wr : World) : Prop := ∃ k : Nat, k ≤ N ∧ i = .int .i64 (k : Int) ∧ Eqv wA wr
set_option maxHeartbeats 12800000 in
theorem walk (a : Option Addr) (len cap : Nat) (l : List Pkt) (w : World) (hI0 : IsE pktT w a len l ∧ len ≤ maxLen) (s : ByteArray) (hlim : s.size ≤ maxLen) (hW : Wd w) :
    Calls Tryd.prog 7 #[.slice a len cap, .string s] w fun e w' => e = .returned (.bool true) ∧ Below w.heap.size w w' := by
  have HW := Lib.hid (fun W (q : Keeps w W) => awake14_any W W (Keeps.refl W) (hW.keeps q))
  have HK := Lib.hid (Keeps.refl w)
  obtain ⟨hI, hcap⟩ := hI0
  obtain ⟨N, hN⟩ : ∃ N, l.length = N := ⟨_, rfl⟩
  have hll : len = N := by rw [← hN]; exact hI.1
  subst hll
  have HI := Lib.hid hI
  have HN := Lib.hid hN
  clear hI hN
  by_cases h6 : 6 < len
  · have hi : (6 : Int) < (len : Int) := by omega
    go_enter Tryd.func7, Tryd.ntmps7
    go_wp2_with (first | (go_at_call 9; refine (HW.out _ (by first | exact HK.out | exact HK.out.alloc _ | exact (HK.out.alloc _).alloc _)).mono ?_; rintro _ w9 ⟨rfl, k9⟩; have HK := Lib.hid (HK.out.trans k9); clear k9))
    go_ret
    exact ⟨rfl, HK.out⟩
  have hi : ¬ (6 : Int) < (len : Int) := by omega
  by_cases h0 : len = 0
  · subst h0
    go_enter Tryd.func7, Tryd.ntmps7
    go_wp2_with (first | (go_at_call 9; refine (HW.out _ (by first | exact HK.out | exact HK.out.alloc _ | exact (HK.out.alloc _).alloc _)).mono ?_; rintro _ w9 ⟨rfl, k9⟩; have HK := Lib.hid (HK.out.trans k9); clear k9))
    go_ret
    exact ⟨rfl, HK.out⟩
  have hi0 : ¬ (len : Int) = 0 := by omega
  by_cases h7 : 187 < s.size
  · have hi7 : (187 : Int) < (s.size : Int) := by omega
    go_enter Tryd.func7, Tryd.ntmps7
    go_wp2_with (first | (go_at_call 9; refine (HW.out _ (by first | exact HK.out | exact HK.out.alloc _ | exact (HK.out.alloc _).alloc _)).mono ?_; rintro _ w9 ⟨rfl, k9⟩; have HK := Lib.hid (HK.out.trans k9); clear k9))
    go_ret
    exact ⟨rfl, HK.out⟩
  have hi7 : ¬ (187 : Int) < (s.size : Int) := by omega
  have HS0 := Lib.hid (show st (ahF (ls s) l 0) = s by rw [ah_zero, st_ls])
  go_enter Tryd.func7, Tryd.ntmps7
  go_wp2
  go_loopw [5, 6] (fun all i wr => ahRel w (ls s) l all i wr) (fun _ i _ => len - (intOf i).toNat)
  case atStart => exact ⟨0, Nat.zero_le _, rfl, by rw [HS0.out], by simp, Keeps.refl _⟩
  case round =>
    obtain ⟨k, hk, rfl, rfl, hck, hkp⟩ := hrel
    have hul := ah_length (s := ls s) hk hck
    rw [← ls_size] at hul
    rw [HN.out] at hk
    have HCK := Lib.hid hck
    have HK := Lib.hid hkp
    clear hck hkp
    by_cases hlt : k < len
    · have hlI : (k : Int) < (len : Int) := by omega
      have hkl : k < l.length := by rw [HN.out]; exact hlt
      obtain ⟨b1, off1, rfl, hrg⟩ := pkt_range HI.out hkl
      have HNX := Lib.hid (ah_next (ls s) l hkl)
      have HTK := Lib.hid (show ckP l[k] = 0 → ∀ p ∈ l.take (k + 1), ckP p = 0 from fun h p hp => by
        rw [List.take_add_one, List.getElem?_eq_getElem hkl] at hp
        rcases List.mem_append.1 hp with y | y
        · exact HCK.out p y
        · rw [List.mem_singleton.1 y]; exact h)
      obtain ⟨U, hU⟩ : ∃ U, st (ahF (ls s) l k) = U := ⟨_, rfl⟩
      have hUz : U.size ≤ 187 + 188 * 6 := by rw [← hU, st_size]; omega
      rw [hU]
      obtain ⟨⟨pid, start, count, bad, body⟩, hP⟩ : ∃ P, l[k] = P := ⟨_, rfl⟩
      rw [hP] at hrg HNX HTK
      have HLD := Lib.hid hrg
      have HPL := Lib.hid (fun W => pkplain_any ⟨pid, start, count, bad, body⟩ W)
      have HRC := Lib.hid (fun W => rpkcheck_any W ⟨pid, start, count, bad, body⟩ W (Keeps.refl W))
      unfold PkkPost at HRC
      have wr3 := wrapI (a := (k : Int) + 1) (by omega) (by omega)
      by_cases hc : ckP ⟨pid, start, count, bad, body⟩ = 0
      · have HEC := Lib.hid (fun W (q : Keeps w W) => pkencode_any ⟨pid, start, count, bad, body⟩ W (hW.keeps q) (by have := (ckP_good hc).2; exact Nat.le_trans this (by decide)))
        rw [ecP_ok hc] at HEC
        rw [hc] at HRC
        have hTz := bts_length (ckP_good hc).2
        replace HTK := Lib.hid (HTK.out hc)
        obtain ⟨T, hT⟩ : ∃ T, st (bts ⟨pid, start, count, bad, body⟩) = T := ⟨_, rfl⟩
        have hTz2 : T.size = 188 := by rw [← hT, st_size]; exact hTz
        have HUT := Lib.hid (show U ++ T = st (ahF (ls s) l (k + 1)) by rw [← hU, ← hT, st_append, HNX.out])
        simp only [hT] at HEC
        clear hc hTz hT hU hP hrg hul hkl
        go_wp2_with (first | (refine wp_ldP (b := b1) (off := off1 + k * 5) (HLD.out _ HK.out) rfl _ rfl rfl ?_) | (go_at_call 11; refine (HPL.out _).mono ?_; rintro _ w1 ⟨rfl, k1⟩; have HK := Lib.hid (HK.out.trans k1); clear k1) | (go_at_call 10; refine (HRC.out _).mono ?_; rintro _ w2 ⟨rfl, k2⟩; have HK := Lib.hid (HK.out.trans k2); clear k2) | (go_at_call 12; refine (HEC.out _ (by first | exact HK.out | exact HK.out.alloc _ | exact (HK.out.alloc _).alloc _)).mono ?_; rintro _ w3 ⟨rfl, k3⟩; have HK := Lib.hid (HK.out.trans k3); clear k3))
        go_roundw
        case rel => exact ⟨k + 1, by rw [HN.out]; omega, by go_num, by rw [HUT.out], HTK.out, HK.out⟩
        case measure => simp [intOf]; omega
      · obtain ⟨c, hcc⟩ : ∃ c, ckP ⟨pid, start, count, bad, body⟩ = c := ⟨_, rfl⟩
        rw [hcc] at HRC hc
        have hcb : (c == 0) = false := by rw [beq_eq_false_iff_ne]; exact hc
        clear hcc HTK hU hP hrg hul hkl
        go_wp2_with (first | (refine wp_ldP (b := b1) (off := off1 + k * 5) (HLD.out _ HK.out) rfl _ rfl rfl ?_) | (go_at_call 11; refine (HPL.out _).mono ?_; rintro _ w1 ⟨rfl, k1⟩; have HK := Lib.hid (HK.out.trans k1); clear k1) | (go_at_call 10; refine (HRC.out _).mono ?_; rintro _ w2 ⟨rfl, k2⟩; have HK := Lib.hid (HK.out.trans k2); clear k2) | (go_at_call 9; refine (HW.out _ (by first | exact HK.out | exact HK.out.alloc _ | exact (HK.out.alloc _).alloc _)).mono ?_; rintro _ w9 ⟨rfl, k9⟩; have HK := Lib.hid (HK.out.trans k9); clear k9))
        go_ret
        exact ⟨rfl, HK.out⟩
    · have hlI : ¬ (k : Int) < (len : Int) := by omega
      obtain rfl : k = len := by omega
      have hall : ∀ p ∈ l, ckP p = 0 := by have := HCK.out; rwa [← HN.out, List.take_length] at this
      obtain ⟨at', hf, hat, hgd⟩ := ah_math (s := ls s) (l := l) (by rw [← ls_size]; omega) (by rw [HN.out]; omega) hall
      rw [HN.out] at hf hgd
      rw [← ls_size] at hat
      obtain ⟨A, hA⟩ : ∃ A, ahF (ls s) l k = A := ⟨_, rfl⟩
      rw [hA] at hul hf hgd
      rw [hA]
      obtain ⟨U, hU⟩ : ∃ U, st A = U := ⟨_, rfl⟩
      have hUl : ls U = A := by rw [← hU, ls_st]
      have hUz : U.size = s.size + 188 * k := by rw [ls_size, hUl]; exact hul
      rw [hU]
      have HF := Lib.hid (fun W => pkfind_any U W (by omega))
      rw [hUl, show fdA A = (at' : Int) by unfold fdA; rw [hf], show fdE A = 0 by unfold fdE; rw [hf]] at HF
      have hVx := pk_drop U at'
      rw [hUl] at hVx
      obtain ⟨B, hB⟩ : ∃ B, A.drop at' = B := ⟨_, rfl⟩
      have hBl : B.length = s.size + 188 * k - at' := by rw [← hB, List.length_drop, hul]
      rw [hB] at hVx hgd
      obtain ⟨V, hV⟩ : ∃ V, st B = V := ⟨_, rfl⟩
      have hVl : ls V = B := by rw [← hV, ls_st]
      have hVz : V.size = B.length := by rw [ls_size, hVl]
      rw [hV] at hVx
      have HC := Lib.hid (fun W => pkcut_any V W (by omega))
      rw [hVl] at HC
      have hM := pcs_length B
      have HPC := Lib.hid (fun i (hh : i < B.length / 188) => show ∃ P : ByteArray, st ((pcs B).getD i []) = P ∧ P.size = 188 ∧ cf (ls P) 0 = 71 from ⟨_, rfl, by rw [st_size, pcs_get B hh]; exact piece_length B hh, by rw [ls_st, pcs_get B hh, piece_0]; have := hgd i (by omega); rwa [Nat.zero_add] at this⟩)
      obtain ⟨M, hMM⟩ : ∃ M, B.length / 188 = M := ⟨_, rfl⟩
      rw [hMM] at hM HPC
      obtain ⟨R, hR⟩ : ∃ R, st (rst B) = R := ⟨_, rfl⟩
      have hRl : ls R = rst B := by rw [← hR, ls_st]
      have hRz : R.size = B.length - 188 * M := by rw [ls_size, hRl]; unfold rst; rw [List.length_drop, hMM]
      have HR0 := Lib.hid (show 0 < R.size → cf (ls R) 0 = 71 from fun hh => by rw [hRl, rst_0, hMM]; have := hgd M (by omega); rwa [Nat.zero_add] at this)
      obtain ⟨L, hL⟩ : ∃ L, pcs B = L := ⟨_, rfl⟩
      rw [hL] at hM HPC
      simp only [hL, hR, hM] at HC
      have hzI : (U.size : Int) = (s.size : Int) + 188 * (k : Int) := by omega
      have haI : ¬ (s.size : Int) < (at' : Int) := by omega
      have ha0 : ¬ (at' : Int) < 0 := by omega
      have ha2 : (at' : Int) ≤ (s.size : Int) + 188 * (k : Int) := by omega
      have HMN := Lib.hid (show 188 * M ≤ B.length ∧ B.length < 188 * M + 188 by omega)
      have HBL := Lib.hid hBl
      have HRZ := Lib.hid hRz
      have HM := Lib.hid hM
      have HAT := Lib.hid hat
      have hMs : M ≤ 100 := by omega
      have wr4 := wrapI (a := 188 * (k : Int)) (by omega) (by omega)
      have wr5 := wrapI (a := (s.size : Int) + 188 * (k : Int)) (by omega) (by omega)
      clear hul hf hgd hA hU hUl hB hBl hV hVl hVz hMM hR hRl hRz hL hM hall hat hUz
      go_wp2_with (first | (go_at_call 19; refine (HF.out _).mono ?_; rintro _ w4 ⟨rfl, k4⟩; have HK := Lib.hid (HK.out.trans k4); clear k4) | (go_at_call 21; refine (HC.out _).mono ?_; rintro _ w5 ⟨a5, cap5, rfl, hi5, hc5, k5⟩; have HK := Lib.hid (HK.out.trans k5); have HIT := Lib.hid hi5; clear hi5 k5))
      go_loopw [13] (fun i wr => lqRel w5 M i wr) (fun i _ => M - (intOf i).toNat)
      case atStart => exact ⟨0, Nat.zero_le _, rfl, Eqv.refl _⟩
      case round =>
        obtain ⟨j, hj, rfl, hev⟩ := hrel
        have HEV := Lib.hid hev
        by_cases hjl : j < M
        · have hjI : (j : Int) < (M : Int) := by omega
          obtain ⟨P, hP1, hP2, hP3⟩ := HPC.out j hjl
          obtain ⟨b2, off2, rfl, hc1⟩ := HIT.out.get (k := j) (by rw [HM.out]; exact hjl)
          rw [hP1] at hc1
          have hc1 := (hev.cell _).trans hc1
          have z0 : 0 < P.size := by omega
          have g0 := ls_get P 0 z0
          rw [hP3] at g0
          have i0 : (0 : Int) < (P.size : Int) := by omega
          have wr3 := wrapI (a := (j : Int) + 1) (by omega) (by omega)
          clear hP1 hP3 hev
          go_wp2
          go_roundw
          case rel => exact ⟨j + 1, by omega, by go_num, HEV.out⟩
          case measure => simp [intOf]; omega
        · have hjI : ¬ (j : Int) < (M : Int) := by omega
          have HK := Lib.hid (HK.out.eqv HEV.out)
          have q1 := HMN.out
          have q2 := HBL.out
          have q3 := HRZ.out
          have q4 := HAT.out
          clear hev
          by_cases hr : R.size = 0
          · have ht : R.toList = [] := by rw [ls_toList]; exact List.length_eq_zero_iff.1 (by rw [← ls_size]; exact hr)
            by_cases ha : at' = s.size
            · have hMk : M = k := by omega
              subst ha
              clear q1 q2 q3 q4 hr
              subst hMk
              go_wp2_with (first | (go_at_call 9; refine (HW.out _ (by first | exact HK.out | exact HK.out.alloc _ | exact (HK.out.alloc _).alloc _)).mono ?_; rintro _ w9 ⟨rfl, k9⟩; have HK := Lib.hid (HK.out.trans k9); clear k9))
              go_ret
              exact ⟨rfl, HK.out⟩
            · have hab : ((at' : Int) == (s.size : Int)) = false := by rw [beq_eq_false_iff_ne]; omega
              have hai : ¬ (at' : Int) = (s.size : Int) := by omega
              clear q1 q2 q3 q4 hr ha
              go_wp2_with (first | (go_at_call 9; refine (HW.out _ (by first | exact HK.out | exact HK.out.alloc _ | exact (HK.out.alloc _).alloc _)).mono ?_; rintro _ w9 ⟨rfl, k9⟩; have HK := Lib.hid (HK.out.trans k9); clear k9))
              go_ret
              exact ⟨rfl, HK.out⟩
          · have ht : (R.toList == []) = false := by
              rw [beq_eq_false_iff_ne, ls_toList]; intro e
              have h3 := ls_size R; rw [e] at h3
              exact hr h3
            have z0 : 0 < R.size := by omega
            have g0 := ls_get R 0 z0
            rw [HR0.out z0] at g0
            have i0 : (0 : Int) < (R.size : Int) := by omega
            have hai : ¬ (at' : Int) = (s.size : Int) := by omega
            have hab : ((at' : Int) == (s.size : Int)) = false := by rw [beq_eq_false_iff_ne]; exact hai
            clear q1 q2 q3 q4 hr
            go_wp2_with (first | (go_at_call 9; refine (HW.out _ (by first | exact HK.out | exact HK.out.alloc _ | exact (HK.out.alloc _).alloc _)).mono ?_; rintro _ w9 ⟨rfl, k9⟩; have HK := Lib.hid (HK.out.trans k9); clear k9))
            go_ret
            exact ⟨rfl, HK.out⟩

theorem own : ownKnob Tryd.prog.godebug = none := by kernel_rfl
theorem laidOut : laidOutB Tryd.prog = true := by kernel_rfl
set_option maxRecDepth 100000 in
theorem lifted (os : Os) (started : os.Started) (H : Type) (enc : TypeId × Value → H) :
    ReturnsInHanded {} Tryd.checked os 7 .any (fun w args => (Rows.packetAheadSpec.pre enc Tryd.prog Tryd.f7 [] false w args ∧ laidMetH Tryd.prog [("clarion/packet.wide", Rows.laid_clarion_packet_wide)] w) ∧ sizedMet enc Tryd.prog Tryd.f7 (OpenSpec.ofChange Rows.packetAheadSpec) false w args) (Rows.packetAheadSpec.post enc Tryd.prog Tryd.f7 false true false false) := by
  refine returnsInHanded_of_change_and (C := Tryd.checked) (X := fun w _ => laidMetH Tryd.prog [("clarion/packet.wide", Rows.laid_clarion_packet_wide)] w) (fun _ _ _ hh h => h.of_heap hh) own started (by kernel_rfl) Tryd.func7
    (ChangeSpec.witness_shaped (enc := enc) (C := Tryd.checked) (os := os) (X := fun w _ => laidMetH Tryd.prog [("clarion/packet.wide", Rows.laid_clarion_packet_wide)] w) false (World.doorLaid Tryd.prog 400 os) #[.slice none 0 0, .string ByteArray.empty] 8 rfl (World.shaped_of_RefB (by kernel_rfl) (by kernel_rfl)) (by kernel_rfl) (by kernel_rfl) (by kernel_rfl) (door_met os _)) ?_
  intro W base args ds gs before hval0 hW hcnd _ hL _
  have hval : ∀ (j : Nat) t v, Tryd.f7.params[j]? = some t → args[j]? = some v → Value.okWide Tryd.prog W .any base t v := hval0
  have hW' := hW
  obtain ⟨p, q, hA0, hV, rfl, hfz, hnd⟩ := hW
  have hA : DataW.TrodAll enc Tryd.prog W 0 (fun _ => true) true Tryd.f7.params.toList args.toList ds p := hA0
  rw [Tryd.params7] at hA hval
  obtain ⟨v0, vs0, d0, ds0, p0, q0, hargs, rfl, rfl, h0, r0⟩ := trodAll_cons hA
  obtain ⟨v1, vs1, d1, ds1, p1, q1, rfl, rfl, rfl, h1, r1⟩ := trodAll_cons r0
  obtain ⟨rfl, rfl, rfl⟩ := trodAll_nil r1
  obtain rfl : args = #[v0, v1] := by cases args; simp_all
  obtain ⟨rfl, rfl⟩ := trodVars_none hV
  obtain ⟨a0, len0, cap0, rfl⟩ := okWide_slice Tryd.underlying48 (hval 0 48 v0 rfl rfl)
  have k0 := h0
  have lt0 : ∀ x ∈ p0, x.block < W.heap.size := by obtain ⟨m, hm⟩ := k0; exact DataW.trod_lt m _ _ _ hm
  obtain ⟨z0, w0⟩ := open_pktrow h0
  obtain ⟨a1, rfl, rfl, rfl, w1⟩ := open_string Tryd.underlying9 (hval 1 9 v1 rfl rfl) h1
  clear hA0 hval0
  refine (walk a0 len0 cap0 z0 W w0 a1 w1 (wd_of_laid hL)).mono fun e W' ⟨he, bel⟩ => ?_
  subst he
  exact ⟨_, rfl, _, _, _, [], _, [], hW', trodAll_mk1 (shut_bool Tryd.underlying4 _), (trodAll_cons_mk (Below.trod laidOut (by kernel_rfl) (of_decide_eq_true (by kernel_rfl)) k0 bel lt0) (trodAll_cons_mk (shut_string Tryd.underlying9 w1) trodAll_mk0)), rfl, bel.frame _, fun h => by cases h⟩

theorem over : Rows.packetAheadRow.holds Tryd.pinned (OpenSpec.ofChange Rows.packetAheadSpec) :=
  OpenClaim.holds_of_wide 7 Tryd.f7 rfl rfl rfl rfl rfl rfl rfl ⟨rfl, rfl, rfl, rfl, rfl⟩ rfl rfl rfl rfl rfl (by kernel_rfl) Tryd.func7 (by kernel_rfl)
    (of_decide_eq_true (by kernel_rfl)) (by unfold Func.isWrapper; first | (rw [if_pos (by decide +kernel)]; kernel_rfl) | (rw [if_neg (by decide +kernel)]; exact ⟨rfl, rfl⟩))
    (fun os started H enc _ => lifted os started H enc)

set_option maxRecDepth 100000 in
theorem proved : Rows.PacketAheadCardSaid :=
  Claim7.holds_tied_plain_at .later [] [.data] true (true, _) false over (fun _ h => by cases h) (by kernel_rfl) (fun _ h => by cases h) packetAhead_row_tie rfl ⟨rfl, rfl⟩ (by kernel_rfl) rfl
    (fun f fn hf hfn => by
      obtain rfl : f = 7 := Option.some.inj ((show Tryd.prog.funcNamed "clarion/clarionlaw14.PacketAhead" = some 7 by kernel_rfl).symm.trans hf) |>.symm
      obtain rfl : fn = Tryd.f7 := (Option.some.inj (Tryd.func7.symm.trans hfn)).symm
      exact ⟨by kernel_rfl, fun j t ht => by
        rw [Tryd.params7] at ht
        have hm : t ∈ [48, 9] := by simpa using Array.mem_of_getElem? ht
        have hall : ([48, 9].all fun u => !Tryd.prog.wantsStandIn u) = true := by kernel_rfl
        exact (show Tryd.prog.wantsStandIn t = false by simpa using List.all_eq_true.1 hall t hm)⟩)
    (by kernel_rfl)
#print axioms proved
end Go.Proofs.YtikknojhoejciaaDoor.packetAhead
