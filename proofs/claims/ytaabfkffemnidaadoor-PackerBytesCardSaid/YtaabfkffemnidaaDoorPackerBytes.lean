/-
  For any packets and numbers PackerBytes returns true: which bytes they are, one behind the other, and how many packets sections of so many bytes need; nothing that was there is changed. Condition: the table of widths of package packet lies as the program's text lays it (the card ties it).
-/
import Derived.SevenTiedAt
import Derived.Test.YtaabfkffemnidaaDoorRows
import Derived.Test.YtaabfkffemnidaaDoorPrLaw
import Derived.Test.YtaabfkffemnidaaDoorCards
import Derived.Test.YtaabfkffemnidaaDoorTie
import Derived.Test.YtaabfkffemnidaaDoorPrMB
import Derived.Test.YtaabfkffemnidaaDoorPkLaid
namespace Go.Proofs.YtaabfkffemnidaaDoor.packerBytes
open Go.ChangeShapes Go.WideShapes Go.ChangeAt Go.RowKit Gf Pk Pr
set_option maxRecDepth 100000
open Go.ChangeMaps (open_string shut_string)
set_option linter.unusedVariables false
theorem open_irow {H : Type} {enc : TypeId × Value → H} {W : World} {base : Nat} {held : Bool} {a : Option Addr} {len cap : Nat} {d : DataW H} {p : List MemPlace}
    (h : DataW.Trod enc Tryd.prog W base (fun _ => true) held 23 (.slice a len cap) d p) : ∃ l, IsE rowZ W a len l ∧ len ≤ maxLen ∧ len ≤ cap := by
  obtain ⟨l, h1, h2⟩ := open_rowE rowZ (by kernel_rfl) (fun _ _ _ _ hf => by obtain ⟨x, e, _⟩ := DataW.trod_int Tryd.underlying3 hf; exact ⟨x, e⟩) h
  refine ⟨l, h1, h2, ?_⟩
  obtain ⟨fuel, hf⟩ := h
  rcases DataW.trod_slice Tryd.underlying23 hf with ⟨hcs, _⟩ | ⟨x, ln, cp, elems, rest, m, _, hcs, _, _, hlc, _⟩
  · simp [Value.cells] at hcs
    obtain ⟨rfl, rfl, rfl⟩ := hcs
    exact Nat.le_refl _
  · simp [Value.cells] at hcs
    obtain ⟨rfl, rfl, rfl⟩ := hcs
    exact hlc
theorem pkt_range {W : World} {a : Option Addr} {len : Nat} {l : List Pkt} (h : IsE pktT W a len l) {i : Nat} (hi : i < l.length) : ∃ b off, a = some ⟨b, off, none⟩ ∧ ∀ W', Keeps W W' → W'.rangeAt b (off + i * 5) (pkC l[i]) := by
  obtain ⟨b, off, ha, hb, hc⟩ := h.get hi
  exact ⟨b, off, ha, fun W' k j v hj => by rw [Nat.add_assoc]; exact (Below.cell k (p := ⟨b, off + (i * 5 + j), none⟩) hb).trans (hc j v hj)⟩
theorem byE_next (l : List Pkt) (p : Pkt) : byE (l ++ [p]) = if byE l ≠ 0 then byE l else ckP p := by
  induction l with
  | nil =>
    show (if ckP p ≠ 0 then ckP p else 0) = if (0 : Int) ≠ 0 then 0 else ckP p
    by_cases h : ckP p = 0
    · simp [h]
    · simp [h]
  | cons s t ih =>
    show (if ckP s ≠ 0 then ckP s else byE (t ++ [p])) = if (if ckP s ≠ 0 then ckP s else byE t) ≠ 0 then (if ckP s ≠ 0 then ckP s else byE t) else ckP p
    rw [ih]
    by_cases h : ckP s = 0
    · simp [h]
    · simp [h]
def flB (l : List Pkt) : List UInt8 := (l.map bts).flatten
theorem flB_next {l : List Pkt} {k : Nat} (h : k < l.length) : flB (l.take (k + 1)) = flB (l.take k) ++ bts l[k] := by
  unfold flB; rw [List.take_add_one, List.getElem?_eq_getElem h, List.map_append, List.flatten_append]; simp
structure ByIn (w : World) (l : List Pkt) (k : Nat) (S : ByteArray) (E : Int) (wr : World) : Prop where
  e : E = byE (l.take k)
  s : E = 0 → S = st (flB (l.take k))
  z : S.size ≤ 188 * k
  b : ∀ p ∈ l.take k, p.body.size ≤ 300
  kp : Keeps w wr
theorem z_read {W : World} {a : Option Addr} {len : Nat} {m : List Int} (h : IsE rowZ W a len m) {i : Nat} (hi : i < m.length) : ∃ b off, a = some ⟨b, off, none⟩ ∧ ∀ W', Keeps W W' → W'.cell? ⟨b, off + i, none⟩ = some (.int .i64 m[i]) := by
  obtain ⟨b, off, ha, hb, hc⟩ := h.get hi
  refine ⟨b, off, ha, fun W' k => ?_⟩
  have := (Below.cell k (p := ⟨b, off + (i * 1 + 0), none⟩) hb).trans (hc 0 _ rfl)
  rwa [Nat.mul_one, Nat.add_zero] at this
def okN (x : Int) : Prop := 12 ≤ x ∧ x ≤ 4096
instance (x : Int) : Decidable (okN x) := by unfold okN; infer_instance
def txM (m : List Int) : List (List UInt8) := (m.filter fun x => decide (okN x)).map fun x => z8 x.toNat
theorem txM_yes {m : List Int} {k : Nat} (h : k < m.length) (y : okN m[k]) : txM (m.take (k + 1)) = txM (m.take k) ++ [z8 m[k].toNat] := by
  unfold txM; rw [List.take_add_one, List.getElem?_eq_getElem h, List.filter_append, List.map_append]; simp [y]
theorem txM_no {m : List Int} {k : Nat} (h : k < m.length) (y : ¬ okN m[k]) : txM (m.take (k + 1)) = txM (m.take k) := by
  unfold txM; rw [List.take_add_one, List.getElem?_eq_getElem h, List.filter_append, List.map_append]; simp [y]
theorem txM_length (m : List Int) : (txM m).length ≤ m.length := by unfold txM; rw [List.length_map]; exact List.length_filter_le ..
theorem txM_all {m : List Int} (h : ∀ x ∈ m, okN x) : (txM m).map List.length = m.map Int.toNat := by
  unfold txM
  rw [List.filter_eq_self.2 (fun x hx => by simpa using h x hx), List.map_map]
  exact List.map_congr_left fun x _ => List.length_replicate
theorem txM_size {m : List Int} {s : List UInt8} (h : s ∈ txM m) : 1 ≤ s.length ∧ s.length ≤ 4096 := by
  unfold txM at h
  obtain ⟨x, hx, rfl⟩ := List.mem_map.1 h
  have := (List.mem_filter.1 hx).2
  rw [decide_eq_true_eq] at this
  obtain ⟨h1, h2⟩ := this
  unfold z8
  rw [List.length_replicate]; omega
def allN (m : List Int) : Bool := decide (∀ x ∈ m, okN x)
theorem allN_yes {m : List Int} {k : Nat} (h : k < m.length) (y : okN m[k]) : allN (m.take (k + 1)) = allN (m.take k) := by
  unfold allN; rw [List.take_add_one, List.getElem?_eq_getElem h]
  congr 1
  apply propext
  exact ⟨fun g x hx => g x (List.mem_append_left _ hx), fun g x hx => (List.mem_append.1 hx).elim (g x) (fun e => by rw [show x = m[k] by simpa using e]; exact y)⟩
theorem allN_no {m : List Int} {k : Nat} (h : k < m.length) (y : ¬ okN m[k]) : allN (m.take (k + 1)) = false := by
  unfold allN; rw [List.take_add_one, List.getElem?_eq_getElem h]
  rw [decide_eq_false_iff_not]
  exact fun g => y (g _ (List.mem_append_right _ (by simp)))
theorem isN {α : Type} {T : RowT α} {w : World} {base : Nat} {v : Value} {l : List α} (h : OwnE T w base v l) {n : Nat} (hn : l.length = n) : ∃ a cap, v = .slice a n cap ∧ IsE T w a n l := by
  obtain ⟨a, cap, e, hi, _⟩ := h.is
  subst hn
  exact ⟨a, cap, e, hi⟩
def pbRel (w : World) (base : Nat) (m : List Int) (v right i : Value) (wr : World) : Prop := ∃ k : Nat, k ≤ m.length ∧ i = .int .i64 (k : Int) ∧ right = .bool (allN (m.take k)) ∧ OwnE rowT wr base v (txM (m.take k)) ∧ Keeps w wr
def byRelL (w : World) (l : List Pkt) (want e i : Value) (wr : World) : Prop := ∃ (k : Nat) (S : ByteArray) (E : Int), k ≤ l.length ∧ i = .int .i64 (k : Int) ∧ want = .string S ∧ e = .int .i64 E ∧ ByIn w l k S E wr
set_option maxHeartbeats 12800000 in
theorem walk (a : Option Addr) (len cap : Nat) (l : List Pkt) (w : World) (hI0 : IsE pktT w a len l ∧ len ≤ maxLen) (am : Option Addr) (lem capm : Nat) (m : List Int) (_ : World) (hm0 : IsE rowZ w am lem m ∧ lem ≤ maxLen ∧ lem ≤ capm) (hW : Wd w) :
    Calls Tryd.prog 3 #[.slice a len cap, .slice am lem capm] w fun e w' => e = .returned (.bool true) ∧ Below w.heap.size w w' := by
  have HW := Lib.hid (fun W => awake15_any W W (Keeps.refl W))
  have HK := Lib.hid (Keeps.refl w)
  obtain ⟨hI, hcap⟩ := hI0
  obtain ⟨hJ, hcam, hcc⟩ := hm0
  have HCC := Lib.hid hcc
  have HWD := Lib.hid hW
  clear hcc hW
  obtain ⟨N, hN⟩ : ∃ N, l.length = N := ⟨_, rfl⟩
  have hll : len = N := by rw [← hN]; exact hI.1
  subst hll
  obtain ⟨N, hM⟩ : ∃ N, m.length = N := ⟨_, rfl⟩
  have hll : lem = N := by rw [← hM]; exact hJ.1
  subst hll
  have HI := Lib.hid hI
  have HN := Lib.hid hN
  have HJ := Lib.hid hJ
  have HM := Lib.hid hM
  clear hI hN hJ hM
  by_cases h6 : 10 < len
  · have hi : (10 : Int) < (len : Int) := by omega
    go_enter Tryd.func3, Tryd.ntmps3
    go_wp2_with (first | (go_at_call 5; refine (HW.out _).mono ?_; rintro _ w9 ⟨rfl, k9⟩; have HK := Lib.hid (HK.out.trans k9); clear k9))
    go_ret
    exact ⟨rfl, HK.out⟩
  have hi : ¬ (10 : Int) < (len : Int) := by omega
  by_cases h7 : 20 < lem
  · have hi2 : (20 : Int) < (lem : Int) := by omega
    go_enter Tryd.func3, Tryd.ntmps3
    go_wp2_with (first | (go_at_call 5; refine (HW.out _).mono ?_; rintro _ w9 ⟨rfl, k9⟩; have HK := Lib.hid (HK.out.trans k9); clear k9))
    go_ret
    exact ⟨rfl, HK.out⟩
  have hi2 : ¬ (20 : Int) < (lem : Int) := by omega
  clear HK
  go_enter Tryd.func3, Tryd.ntmps3
  go_wp2
  go_loopw [5, 6, 7] (fun want e i wr => byRelL w l want e i wr) (fun _ _ i _ => len - (intOf i).toNat)
  case atStart => exact ⟨0, ⟨#[]⟩, 0, Nat.zero_le _, rfl, rfl, rfl, ⟨rfl, fun _ => rfl, Nat.zero_le _, by simp, Keeps.refl _⟩⟩
  case round =>
    obtain ⟨k, S, E, hk, rfl, rfl, rfl, hp⟩ := hrel
    rw [HN.out] at hk
    have hz := hp.z
    have HP := Lib.hid hp
    have HK := Lib.hid hp.kp
    clear hp
    by_cases hlt : k < len
    · have hlI : (k : Int) < (len : Int) := by omega
      have hkl : k < l.length := by rw [HN.out]; exact hlt
      obtain ⟨b1, off1, rfl, hrg⟩ := pkt_range HI.out hkl
      have HNX := Lib.hid (show byE (l.take (k + 1)) = if E ≠ 0 then E else ckP l[k] by
        rw [List.take_add_one, List.getElem?_eq_getElem hkl, HP.out.e]; exact byE_next (l.take k) l[k])
      have HFX := Lib.hid (flB_next hkl)
      have HTB := Lib.hid (show l[k].body.size ≤ 300 → ∀ p ∈ l.take (k + 1), p.body.size ≤ 300 from fun h p hp => by
        rw [List.take_add_one, List.getElem?_eq_getElem hkl] at hp
        rcases List.mem_append.1 hp with y | y
        · exact HP.out.b p y
        · rw [List.mem_singleton.1 y]; exact h)
      obtain ⟨⟨pid, start, count, bad, body⟩, hP⟩ : ∃ P, l[k] = P := ⟨_, rfl⟩
      rw [hP] at hrg HNX HTB HFX
      have c4 : wr.cell? ⟨b1, off1 + k * 5 + 4, none⟩ = some (.string body) := hrg wr HK.out 4 _ rfl
      have HLD := Lib.hid hrg
      have HPL := Lib.hid (fun W => pkplain_any ⟨pid, start, count, bad, body⟩ W)
      have HRC := Lib.hid (fun W => rpkcheck_any W ⟨pid, start, count, bad, body⟩ W (Keeps.refl W))
      unfold PkkPost at HRC
      have wr3 := wrapI (a := (k : Int) + 1) (by omega) (by omega)
      clear hP hrg hkl
      by_cases h3 : 300 < body.size
      · have h3i : (300 : Int) < (body.size : Int) := by omega
        go_wp2_with (first | (go_at_call 5; refine (HW.out _).mono ?_; rintro _ w9 ⟨rfl, k9⟩; have HK := Lib.hid (HK.out.trans k9); clear k9))
        go_ret
        exact ⟨rfl, HK.out⟩
      have h3i : ¬ (300 : Int) < (body.size : Int) := by omega
      replace HTB := Lib.hid (HTB.out (by show body.size ≤ 300; omega))
      by_cases hE : E = 0
      · by_cases hc : ckP ⟨pid, start, count, bad, body⟩ = 0
        · have HRB := Lib.hid (fun W => rpkbytes_any W ⟨pid, start, count, bad, body⟩ W hc (Keeps.refl W))
          rw [hc] at HRC HNX
          rw [if_neg (fun x => x hE)] at HNX
          have hTz := bts_length (ckP_good hc).2
          obtain ⟨T, hT⟩ : ∃ T, st (bts ⟨pid, start, count, bad, body⟩) = T := ⟨_, rfl⟩
          have hTz2 : T.size = 188 := by rw [← hT, st_size]; exact hTz
          have HUT := Lib.hid (show S ++ T = st (flB (l.take (k + 1))) by rw [HP.out.s hE, ← hT, HFX.out, st_append])
          simp only [hT] at HRB
          have HZ := Lib.hid (show (S ++ T).size ≤ 188 * (k + 1) by rw [ByteArray.size_append]; omega)
          clear hc hTz hT
          subst hE
          go_wp2_with (first | (refine wp_ldP (b := b1) (off := off1 + k * 5) (HLD.out _ HK.out) rfl _ rfl rfl ?_) | (go_at_call 7; refine (HPL.out _).mono ?_; rintro _ w1 ⟨rfl, k1⟩; have HK := Lib.hid (HK.out.trans k1); clear k1) | (go_at_call 6; refine (HRC.out _).mono ?_; rintro _ w2 ⟨rfl, k2⟩; have HK := Lib.hid (HK.out.trans k2); clear k2) | (go_at_call 8; refine (HRB.out _).mono ?_; rintro _ w3 ⟨rfl, k3⟩; have HK := Lib.hid (HK.out.trans k3); clear k3))
          go_roundw
          case rel => exact ⟨k + 1, S ++ T, 0, by rw [HN.out]; omega, by go_num, rfl, rfl, ⟨HNX.out.symm, fun _ => HUT.out, HZ.out, HTB.out, HK.out⟩⟩
          case measure => simp [intOf]; omega
        · obtain ⟨c, hcc⟩ : ∃ c, ckP ⟨pid, start, count, bad, body⟩ = c := ⟨_, rfl⟩
          rw [hcc] at HRC hc HNX
          rw [if_neg (fun x => x hE)] at HNX
          clear hcc
          subst hE
          go_wp2_with (first | (refine wp_ldP (b := b1) (off := off1 + k * 5) (HLD.out _ HK.out) rfl _ rfl rfl ?_) | (go_at_call 7; refine (HPL.out _).mono ?_; rintro _ w1 ⟨rfl, k1⟩; have HK := Lib.hid (HK.out.trans k1); clear k1) | (go_at_call 6; refine (HRC.out _).mono ?_; rintro _ w2 ⟨rfl, k2⟩; have HK := Lib.hid (HK.out.trans k2); clear k2) | (go_at_call 8; refine (HRB.out _).mono ?_; rintro _ w3 ⟨rfl, k3⟩; have HK := Lib.hid (HK.out.trans k3); clear k3))
          go_roundw
          case rel => exact ⟨k + 1, S, c, by rw [HN.out]; omega, by go_num, rfl, rfl, ⟨HNX.out.symm, fun x => absurd x hc, by omega, HTB.out, HK.out⟩⟩
          case measure => simp [intOf]; omega
      · obtain ⟨c, hcc⟩ : ∃ c, ckP ⟨pid, start, count, bad, body⟩ = c := ⟨_, rfl⟩
        rw [hcc] at HRC HNX
        rw [if_pos hE] at HNX
        clear hcc
        go_wp2_with (first | (refine wp_ldP (b := b1) (off := off1 + k * 5) (HLD.out _ HK.out) rfl _ rfl rfl ?_) | (go_at_call 7; refine (HPL.out _).mono ?_; rintro _ w1 ⟨rfl, k1⟩; have HK := Lib.hid (HK.out.trans k1); clear k1) | (go_at_call 6; refine (HRC.out _).mono ?_; rintro _ w2 ⟨rfl, k2⟩; have HK := Lib.hid (HK.out.trans k2); clear k2) | (go_at_call 8; refine (HRB.out _).mono ?_; rintro _ w3 ⟨rfl, k3⟩; have HK := Lib.hid (HK.out.trans k3); clear k3))
        go_roundw
        case rel => exact ⟨k + 1, S, E, by rw [HN.out]; omega, by go_num, rfl, rfl, ⟨HNX.out.symm, fun x => absurd x hE, by omega, HTB.out, HK.out⟩⟩
        case measure => simp [intOf]; omega
    · have hlI : ¬ (k : Int) < (len : Int) := by omega
      have htk : l.take k = l := List.take_of_length_le (by rw [HN.out]; omega)
      have hpe := HP.out.e
      have hps := HP.out.s
      have hpb := HP.out.b
      rw [htk] at hpe hps hpb
      have HBY := Lib.hid (fun W (h : Keeps w W) => prbytes_any (cap := cap) W (HWD.out.keeps h) (HI.out.keeps h) (by rw [HN.out]; omega) (fun p hp => by have := hpb p hp; omega))
      unfold ByPost at HBY
      clear HP htk hpb
      by_cases hE : E = 0
      · have hby : byO l = (flB l, 0) := by unfold byO; rw [← hpe, if_pos hE]; rfl
        rw [hby] at HBY
        have hS := hps hE
        simp only [← hS] at HBY
        clear hps hpe hby hS
        subst hE
        go_wp2_with (first | (go_at_call 9; refine (HBY.out _ HK.out).mono ?_; rintro _ w5 ⟨rfl, k5⟩; have HK := Lib.hid (HK.out.trans k5); clear k5))
        go_loopw [12, 13, 14] (fun v right i wr => pbRel w w.heap.size m v right i wr) (fun _ _ i _ => lem - (intOf i).toNat)
        case atStart => exact ⟨0, Nat.zero_le _, rfl, rfl, OwnE.nil _ _, HK.out⟩
        case round =>
          clear HK
          obtain ⟨k, hk, rfl, rfl, ho, hkp⟩ := hrel
          rw [HM.out] at hk
          have HK := Lib.hid hkp
          have HO := Lib.hid ho
          clear hkp ho
          by_cases hlt : k < lem
          · have hlI : (k : Int) < (lem : Int) := by omega
            have hkm : k < m.length := by rw [HM.out]; exact hlt
            obtain ⟨b1, off1, rfl, hrd⟩ := z_read HJ.out hkm
            have HY := Lib.hid (txM_yes hkm)
            have HX := Lib.hid (txM_no hkm)
            have HAY := Lib.hid (allN_yes hkm)
            have HAX := Lib.hid (allN_no hkm)
            have hlx := txM_length (m.take k)
            rw [List.length_take, HM.out, Nat.min_eq_left hk] at hlx
            obtain ⟨x, hx⟩ : ∃ x, m[k] = x := ⟨_, rfl⟩
            rw [hx] at hrd HY HX HAY HAX
            have hc1 := hrd wr HK.out
            have wr3 := wrapI (a := (k : Int) + 1) (by omega) (by omega)
            obtain ⟨R, hR⟩ : ∃ R, allN (m.take k) = R := ⟨_, rfl⟩
            rw [hR] at HAY
            rw [hR]
            clear hx hrd hkm hR
            by_cases x15 : 1500 < x
            · by_cases x40 : x ≤ 4096
              · go_wp2_with (first | (go_at_call 5; refine (HW.out _).mono ?_; rintro _ w9 ⟨rfl, k9⟩; have HK := Lib.hid (HK.out.trans k9); clear k9))
                go_ret
                exact ⟨rfl, HK.out⟩
              · have x12 : ¬ x < 12 := by omega
                have x41 : 4096 < x := by omega
                have hno : ¬ okN x := fun h => x40 h.2
                go_wp2
                go_roundw
                case rel => exact ⟨k + 1, by rw [HM.out]; omega, by go_num, by rw [HAX.out hno], by rw [HX.out hno]; exact HO.out, HK.out⟩
                case measure => simp [intOf]; omega
            by_cases x12 : x < 12
            · have hno : ¬ okN x := fun h => by have := h.1; omega
              go_wp2
              go_roundw
              case rel => exact ⟨k + 1, by rw [HM.out]; omega, by go_num, by rw [HAX.out hno], by rw [HX.out hno]; exact HO.out, HK.out⟩
              case measure => simp [intOf]; omega
            have hyes : okN x := ⟨by omega, by omega⟩
            have HY2 := Lib.hid (HY.out hyes)
            have HAY2 := Lib.hid (HAY.out hyes)
            obtain ⟨n, rfl⟩ : ∃ n : Nat, x = (n : Int) := ⟨x.toNat, by omega⟩
            have x41 : ¬ 4096 < (n : Int) := by omega
            have hn1 : n ≤ 1500 := by omega
            rw [Int.toNat_natCast] at HY2
            obtain ⟨Z, hZ⟩ : ∃ Z, z8 n = Z := ⟨_, rfl⟩
            have hmk := make8 n (by omega) wr
            have hcv := (Blk.make wr n).whole n (n := n) (by unfold z8; rw [List.length_replicate])
            obtain ⟨Y, hY⟩ : ∃ Y, st (z8 n) = Y := ⟨_, rfl⟩
            rw [hY] at hcv
            rw [hZ] at HY2 hY
            have HYZ := Lib.hid hY
            clear hZ hY HY HX HAY HAX hyes
            go_wp2_with (at_builtin; refine wp_pushE (T := rowT) rfl _ _ rfl Z #[.string Y] (by rw [← HYZ.out]; rfl) (wr.heap.size + 1) (by simp) (HO.out.keeps ((Keeps.refl wr).alloc _)) rfl rfl (by omega) (by have := Below.size HK.out; simp; omega) 9 ?_; intro v4 w4 o4 g4 at4; have HO4 := Lib.hid o4; have HK4 := Lib.hid (((HK.out.alloc _).alloc (.cells #[.string Y] 9)).grown g4 HO.out.block); clear o4 g4 at4)
            go_roundw
            case rel => exact ⟨k + 1, by rw [HM.out]; omega, by go_num, by rw [HAY2.out], by rw [HY2.out]; exact HO4.out, HK4.out⟩
            case measure => simp [intOf]; omega
          · have hlI : ¬ (k : Int) < (lem : Int) := by omega
            have htk : m.take k = m := List.take_of_length_le (by rw [HM.out]; omega)
            rw [htk] at HO
            rw [htk]
            have hlx := txM_length m
            rw [HM.out] at hlx
            obtain ⟨TL, hTL⟩ : ∃ n, (txM m).length = n := ⟨_, rfl⟩
            rw [hTL] at hlx
            obtain ⟨at_, ct, rfl, hit⟩ := isN HO.out hTL
            have HMN := Lib.hid (fun W (h : Keeps w W) => prmany_any (cap := capm) W (HJ.out.keeps h) HCC.out (by rw [HM.out]; omega))
            obtain ⟨R, hR⟩ : ∃ R, allN m = R := ⟨_, rfl⟩
            rw [hR]
            cases R with
            | true =>
              unfold allN at hR
              rw [decide_eq_true_eq] at hR
              have HBO := Lib.hid (prbodies_any (cap := ct) wr hit.texts (fun s hs => txM_size hs) (by rw [hTL]; omega))
              rw [mnO_ok hR, ← txM_all hR, ← bodies_many] at HMN
              obtain ⟨B, hB⟩ : ∃ B, (bodies (txM m)).length = B := ⟨_, rfl⟩
              rw [hB] at HMN
              have HBL := Lib.hid (show (bodP (txM m)).length = B by unfold bodP; rw [List.length_map]; exact hB)
              clear hB hR hit hTL htk
              go_wp2_with (first | (go_at_call 10; refine HBO.out.mono ?_; rintro _ w6 ⟨v6, rfl, ho6, k6⟩; obtain ⟨a6, c6, rfl, hi6⟩ := isN ho6 HBL.out; have HK := Lib.hid (HK.out.trans k6); clear ho6 k6 hi6) | (go_at_call 11; refine (HMN.out _ HK.out).mono ?_; rintro _ w7 ⟨rfl, k7⟩; have HK := Lib.hid (HK.out.trans k7); clear k7) | (go_at_call 5; refine (HW.out _).mono ?_; rintro _ w9 ⟨rfl, k9⟩; have HK := Lib.hid (HK.out.trans k9); clear k9))
              go_ret
              exact ⟨rfl, HK.out⟩
            | false =>
              unfold allN at hR
              rw [decide_eq_false_iff_not] at hR
              have h0 : mnO m = 0 := by unfold mnO; exact if_neg hR
              rw [h0] at HMN
              clear h0 hR hit hTL htk
              go_wp2_with (first | (go_at_call 10; refine HBO.out.mono ?_; rintro _ w6 ⟨v6, rfl, ho6, k6⟩; obtain ⟨a6, c6, rfl, hi6⟩ := isN ho6 HBL.out; have HK := Lib.hid (HK.out.trans k6); clear ho6 k6 hi6) | (go_at_call 11; refine (HMN.out _ HK.out).mono ?_; rintro _ w7 ⟨rfl, k7⟩; have HK := Lib.hid (HK.out.trans k7); clear k7) | (go_at_call 5; refine (HW.out _).mono ?_; rintro _ w9 ⟨rfl, k9⟩; have HK := Lib.hid (HK.out.trans k9); clear k9))
              go_ret
              exact ⟨rfl, HK.out⟩
      · have hby : byO l = ([], E) := by unfold byO; rw [← hpe, if_neg hE]
        rw [hby] at HBY
        simp only [show st [] = (⟨#[]⟩ : ByteArray) from rfl] at HBY
        clear hps hpe hby
        go_wp2_with (first | (go_at_call 9; refine (HBY.out _ HK.out).mono ?_; rintro _ w5 ⟨rfl, k5⟩; have HK := Lib.hid (HK.out.trans k5); clear k5))
        go_loopw [12, 13, 14] (fun v right i wr => pbRel w w.heap.size m v right i wr) (fun _ _ i _ => lem - (intOf i).toNat)
        case atStart => exact ⟨0, Nat.zero_le _, rfl, rfl, OwnE.nil _ _, HK.out⟩
        case round =>
          clear HK
          obtain ⟨k, hk, rfl, rfl, ho, hkp⟩ := hrel
          rw [HM.out] at hk
          have HK := Lib.hid hkp
          have HO := Lib.hid ho
          clear hkp ho
          by_cases hlt : k < lem
          · have hlI : (k : Int) < (lem : Int) := by omega
            have hkm : k < m.length := by rw [HM.out]; exact hlt
            obtain ⟨b1, off1, rfl, hrd⟩ := z_read HJ.out hkm
            have HY := Lib.hid (txM_yes hkm)
            have HX := Lib.hid (txM_no hkm)
            have HAY := Lib.hid (allN_yes hkm)
            have HAX := Lib.hid (allN_no hkm)
            have hlx := txM_length (m.take k)
            rw [List.length_take, HM.out, Nat.min_eq_left hk] at hlx
            obtain ⟨x, hx⟩ : ∃ x, m[k] = x := ⟨_, rfl⟩
            rw [hx] at hrd HY HX HAY HAX
            have hc1 := hrd wr HK.out
            have wr3 := wrapI (a := (k : Int) + 1) (by omega) (by omega)
            obtain ⟨R, hR⟩ : ∃ R, allN (m.take k) = R := ⟨_, rfl⟩
            rw [hR] at HAY
            rw [hR]
            clear hx hrd hkm hR
            by_cases x15 : 1500 < x
            · by_cases x40 : x ≤ 4096
              · go_wp2_with (first | (go_at_call 5; refine (HW.out _).mono ?_; rintro _ w9 ⟨rfl, k9⟩; have HK := Lib.hid (HK.out.trans k9); clear k9))
                go_ret
                exact ⟨rfl, HK.out⟩
              · have x12 : ¬ x < 12 := by omega
                have x41 : 4096 < x := by omega
                have hno : ¬ okN x := fun h => x40 h.2
                go_wp2
                go_roundw
                case rel => exact ⟨k + 1, by rw [HM.out]; omega, by go_num, by rw [HAX.out hno], by rw [HX.out hno]; exact HO.out, HK.out⟩
                case measure => simp [intOf]; omega
            by_cases x12 : x < 12
            · have hno : ¬ okN x := fun h => by have := h.1; omega
              go_wp2
              go_roundw
              case rel => exact ⟨k + 1, by rw [HM.out]; omega, by go_num, by rw [HAX.out hno], by rw [HX.out hno]; exact HO.out, HK.out⟩
              case measure => simp [intOf]; omega
            have hyes : okN x := ⟨by omega, by omega⟩
            have HY2 := Lib.hid (HY.out hyes)
            have HAY2 := Lib.hid (HAY.out hyes)
            obtain ⟨n, rfl⟩ : ∃ n : Nat, x = (n : Int) := ⟨x.toNat, by omega⟩
            have x41 : ¬ 4096 < (n : Int) := by omega
            have hn1 : n ≤ 1500 := by omega
            rw [Int.toNat_natCast] at HY2
            obtain ⟨Z, hZ⟩ : ∃ Z, z8 n = Z := ⟨_, rfl⟩
            have hmk := make8 n (by omega) wr
            have hcv := (Blk.make wr n).whole n (n := n) (by unfold z8; rw [List.length_replicate])
            obtain ⟨Y, hY⟩ : ∃ Y, st (z8 n) = Y := ⟨_, rfl⟩
            rw [hY] at hcv
            rw [hZ] at HY2 hY
            have HYZ := Lib.hid hY
            clear hZ hY HY HX HAY HAX hyes
            go_wp2_with (at_builtin; refine wp_pushE (T := rowT) rfl _ _ rfl Z #[.string Y] (by rw [← HYZ.out]; rfl) (wr.heap.size + 1) (by simp) (HO.out.keeps ((Keeps.refl wr).alloc _)) rfl rfl (by omega) (by have := Below.size HK.out; simp; omega) 9 ?_; intro v4 w4 o4 g4 at4; have HO4 := Lib.hid o4; have HK4 := Lib.hid (((HK.out.alloc _).alloc (.cells #[.string Y] 9)).grown g4 HO.out.block); clear o4 g4 at4)
            go_roundw
            case rel => exact ⟨k + 1, by rw [HM.out]; omega, by go_num, by rw [HAY2.out], by rw [HY2.out]; exact HO4.out, HK4.out⟩
            case measure => simp [intOf]; omega
          · have hlI : ¬ (k : Int) < (lem : Int) := by omega
            have htk : m.take k = m := List.take_of_length_le (by rw [HM.out]; omega)
            rw [htk] at HO
            rw [htk]
            have hlx := txM_length m
            rw [HM.out] at hlx
            obtain ⟨TL, hTL⟩ : ∃ n, (txM m).length = n := ⟨_, rfl⟩
            rw [hTL] at hlx
            obtain ⟨at_, ct, rfl, hit⟩ := isN HO.out hTL
            have HMN := Lib.hid (fun W (h : Keeps w W) => prmany_any (cap := capm) W (HJ.out.keeps h) HCC.out (by rw [HM.out]; omega))
            obtain ⟨R, hR⟩ : ∃ R, allN m = R := ⟨_, rfl⟩
            rw [hR]
            cases R with
            | true =>
              unfold allN at hR
              rw [decide_eq_true_eq] at hR
              have HBO := Lib.hid (prbodies_any (cap := ct) wr hit.texts (fun s hs => txM_size hs) (by rw [hTL]; omega))
              rw [mnO_ok hR, ← txM_all hR, ← bodies_many] at HMN
              obtain ⟨B, hB⟩ : ∃ B, (bodies (txM m)).length = B := ⟨_, rfl⟩
              rw [hB] at HMN
              have HBL := Lib.hid (show (bodP (txM m)).length = B by unfold bodP; rw [List.length_map]; exact hB)
              clear hB hR hit hTL htk
              go_wp2_with (first | (go_at_call 10; refine HBO.out.mono ?_; rintro _ w6 ⟨v6, rfl, ho6, k6⟩; obtain ⟨a6, c6, rfl, hi6⟩ := isN ho6 HBL.out; have HK := Lib.hid (HK.out.trans k6); clear ho6 k6 hi6) | (go_at_call 11; refine (HMN.out _ HK.out).mono ?_; rintro _ w7 ⟨rfl, k7⟩; have HK := Lib.hid (HK.out.trans k7); clear k7) | (go_at_call 5; refine (HW.out _).mono ?_; rintro _ w9 ⟨rfl, k9⟩; have HK := Lib.hid (HK.out.trans k9); clear k9))
              go_ret
              exact ⟨rfl, HK.out⟩
            | false =>
              unfold allN at hR
              rw [decide_eq_false_iff_not] at hR
              have h0 : mnO m = 0 := by unfold mnO; exact if_neg hR
              rw [h0] at HMN
              clear h0 hR hit hTL htk
              go_wp2_with (first | (go_at_call 10; refine HBO.out.mono ?_; rintro _ w6 ⟨v6, rfl, ho6, k6⟩; obtain ⟨a6, c6, rfl, hi6⟩ := isN ho6 HBL.out; have HK := Lib.hid (HK.out.trans k6); clear ho6 k6 hi6) | (go_at_call 11; refine (HMN.out _ HK.out).mono ?_; rintro _ w7 ⟨rfl, k7⟩; have HK := Lib.hid (HK.out.trans k7); clear k7) | (go_at_call 5; refine (HW.out _).mono ?_; rintro _ w9 ⟨rfl, k9⟩; have HK := Lib.hid (HK.out.trans k9); clear k9))
              go_ret
              exact ⟨rfl, HK.out⟩

theorem own : ownKnob Tryd.prog.godebug = none := by kernel_rfl
theorem laidOut : laidOutB Tryd.prog = true := by kernel_rfl
set_option maxRecDepth 100000 in
theorem lifted (os : Os) (started : os.Started) (H : Type) (enc : TypeId × Value → H) :
    ReturnsInHanded {} Tryd.checked os 3 .any (fun w args => (Rows.packerBytesSpec.pre enc Tryd.prog Tryd.f3 [] false w args ∧ laidMetH Tryd.prog [("clarion/packet.wide", Rows.laid_clarion_packet_wide)] w) ∧ sizedMet enc Tryd.prog Tryd.f3 (OpenSpec.ofChange Rows.packerBytesSpec) false w args) (Rows.packerBytesSpec.post enc Tryd.prog Tryd.f3 false true false false) := by
  refine returnsInHanded_of_change_and (C := Tryd.checked) (X := fun w _ => laidMetH Tryd.prog [("clarion/packet.wide", Rows.laid_clarion_packet_wide)] w) (fun _ _ _ hh h => h.of_heap hh) own started (by kernel_rfl) Tryd.func3
    (ChangeSpec.witness_shaped (enc := enc) (C := Tryd.checked) (os := os) (X := fun w _ => laidMetH Tryd.prog [("clarion/packet.wide", Rows.laid_clarion_packet_wide)] w) false (World.doorLaid Tryd.prog 400 os) #[.slice none 0 0, .slice none 0 0] 8 rfl (World.shaped_of_RefB (by kernel_rfl) (by kernel_rfl)) (by kernel_rfl) (by kernel_rfl) (by kernel_rfl) (door_met os _)) ?_
  intro W base args ds gs before hval0 hW hcnd _ hL _
  have hval : ∀ (j : Nat) t v, Tryd.f3.params[j]? = some t → args[j]? = some v → Value.okWide Tryd.prog W .any base t v := hval0
  have hW' := hW
  obtain ⟨p, q, hA0, hV, rfl, hfz, hnd⟩ := hW
  have hA : DataW.TrodAll enc Tryd.prog W 0 (fun _ => true) true Tryd.f3.params.toList args.toList ds p := hA0
  rw [Tryd.params3] at hA hval
  obtain ⟨v0, vs0, d0, ds0, p0, q0, hargs, rfl, rfl, h0, r0⟩ := trodAll_cons hA
  obtain ⟨v1, vs1, d1, ds1, p1, q1, rfl, rfl, rfl, h1, r1⟩ := trodAll_cons r0
  obtain ⟨rfl, rfl, rfl⟩ := trodAll_nil r1
  obtain rfl : args = #[v0, v1] := by cases args; simp_all
  obtain ⟨rfl, rfl⟩ := trodVars_none hV
  obtain ⟨a0, len0, cap0, rfl⟩ := okWide_slice Tryd.underlying22 (hval 0 22 v0 rfl rfl)
  have k0 := h0
  have lt0 : ∀ x ∈ p0, x.block < W.heap.size := by obtain ⟨m, hm⟩ := k0; exact DataW.trod_lt m _ _ _ hm
  obtain ⟨z0, w0⟩ := open_pktrow h0
  obtain ⟨a1, len1, cap1, rfl⟩ := okWide_slice Tryd.underlying23 (hval 1 23 v1 rfl rfl)
  have k1 := h1
  have lt1 : ∀ x ∈ p1, x.block < W.heap.size := by obtain ⟨m, hm⟩ := k1; exact DataW.trod_lt m _ _ _ hm
  obtain ⟨z1, w1⟩ := open_irow h1
  clear hA0 hval0
  refine (walk a0 len0 cap0 z0 W w0 a1 len1 cap1 z1 W w1 (wd_of_laid hL)).mono fun e W' ⟨he, bel⟩ => ?_
  subst he
  exact ⟨_, rfl, _, _, _, [], _, [], hW', trodAll_mk1 (shut_bool Tryd.underlying4 _), (trodAll_cons_mk (Below.trod laidOut (by kernel_rfl) (of_decide_eq_true (by kernel_rfl)) k0 bel lt0) (trodAll_cons_mk (Below.trod laidOut (by kernel_rfl) (of_decide_eq_true (by kernel_rfl)) k1 bel lt1) trodAll_mk0)), rfl, bel.frame _, fun h => by cases h⟩

theorem over : Rows.packerBytesRow.holds Tryd.pinned (OpenSpec.ofChange Rows.packerBytesSpec) :=
  OpenClaim.holds_of_wide 3 Tryd.f3 rfl rfl rfl rfl rfl rfl rfl ⟨rfl, rfl, rfl, rfl, rfl⟩ rfl rfl rfl rfl rfl (by kernel_rfl) Tryd.func3 (by kernel_rfl)
    (of_decide_eq_true (by kernel_rfl)) (by unfold Func.isWrapper; first | (rw [if_pos (by decide +kernel)]; kernel_rfl) | (rw [if_neg (by decide +kernel)]; exact ⟨rfl, rfl⟩))
    (fun os started H enc _ => lifted os started H enc)

set_option maxRecDepth 100000 in
theorem proved : Rows.PackerBytesCardSaid :=
  Claim7.holds_tied_plain_at .later [] [.data] true (true, _) false over (fun _ h => by cases h) (by kernel_rfl) (fun _ h => by cases h) packerBytes_row_tie rfl ⟨rfl, rfl⟩ (by kernel_rfl) rfl
    (fun f fn hf hfn => by
      obtain rfl : f = 3 := Option.some.inj ((show Tryd.prog.funcNamed "clarion/clarionlaw15.PackerBytes" = some 3 by kernel_rfl).symm.trans hf) |>.symm
      obtain rfl : fn = Tryd.f3 := (Option.some.inj (Tryd.func3.symm.trans hfn)).symm
      exact ⟨by kernel_rfl, fun j t ht => by
        rw [Tryd.params3] at ht
        have hm : t ∈ [22, 23] := by simpa using Array.mem_of_getElem? ht
        have hall : ([22, 23].all fun u => !Tryd.prog.wantsStandIn u) = true := by kernel_rfl
        exact (show Tryd.prog.wantsStandIn t = false by simpa using List.all_eq_true.1 hall t hm)⟩)
    (by kernel_rfl)
#print axioms proved
end Go.Proofs.YtaabfkffemnidaaDoor.packerBytes
