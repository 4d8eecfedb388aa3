/-
  What the document's filled and Bodies of sections answer, and whether sections are few. The memory that was there stays.
-/
import Derived.Test.YtifbomppgflkfaaDoorPkRef
import Derived.Test.YtifbomppgflkfaaDoorPkArgs
import Derived.Test.YtifbomppgflkfaaDoorTail
import Derived.Test.YtifbomppgflkfaaDoorPrMath
import Derived.Test.YtifbomppgflkfaaDoorDrawHT
import Derived.Test.YtifbomppgflkfaaDoorDrawHT
import Derived.Test.YtifbomppgflkfaaDoorDrawHT
import Derived.Test.YtifbomppgflkfaaDoorDrawHT
import Derived.Test.YtifbomppgflkfaaDoorDrawHT
import Derived.Test.YtifbomppgflkfaaDoorDrawHT
import Derived.Test.YtifbomppgflkfaaDoorDrawHT
namespace Go.Proofs.YtifbomppgflkfaaDoor
open Go.RowKit Gf Pk Pr
set_option maxRecDepth 100000
/-- Rows of the document's packets. -/
def pkqT : RowT Pkt where
  E := 37
  S := 65
  sz := 5
  bs := 48
  z := .agg #[.int .i64 0, .bool false, .int .i64 0, .bool false, .string ⟨#[]⟩]
  enc := pkC
  und := Tryd.underlying65
  info := by kernel_rfl
  zs := rfl
  pos := by decide
  small := by decide
  len := fun _ => rfl
  one := pkC_one
def sliceL : Value → Nat
  | .slice _ n _ => n
  | _ => 0
def flRel (w0 : World) (s : List UInt8) (v : Value) (wr : World) : Prop := ∃ k : Nat, k ≤ 184 - s.length ∧ OwnT wr w0.heap.size v (s ++ List.replicate k 255) ∧ Keeps w0 wr
set_option maxHeartbeats 1600000 in
theorem rprfilled_any (w0 : World) (s : ByteArray) (w : World) (hs : s.size ≤ 1000000) (hk : Keeps w0 w) : Calls Tryd.prog 39 #[.string s] w fun e w' => e = .returned (.string (st (f184 (ls s)))) ∧ Keeps w0 w' := by
  have hcb : ∀ W : World, _ := fun W => Lib.run_convert_string_bytes (P := Tryd.prog) W 9 79 5 s Tryd.underlying9 Tryd.underlying79 Tryd.underlying5
  have HO := Lib.hid (OwnT.bytes w s w0.heap.size (Below.size hk) (grownCap_le_maxLen w s.size 0 5 (by unfold maxLen; omega)))
  have HKB := Lib.hid (hk.trans (Lib.bytesWorld_below w 5 s))
  have HL := Lib.hid (ls_size s)
  clear hk
  go_enter Tryd.func39, Tryd.ntmps39
  go_wp2
  clear hcb
  obtain ⟨wB, hwB⟩ : ∃ wB, Lib.bytesWorld w 5 s = wB := ⟨_, rfl⟩
  obtain ⟨V, hV⟩ : ∃ V, Value.slice (some ⟨w.heap.size, 0, none⟩) s.size (grownCap w s.size 0 5) = V := ⟨_, rfl⟩
  rw [hwB, hV] at HO
  rw [hwB] at HKB
  rw [hwB, hV]
  clear hwB hV
  go_loopw [3] (fun v wr => flRel w0 (ls s) v wr) (fun v _ => 184 - sliceL v)
  case atStart => exact ⟨0, Nat.zero_le _, by simpa using HO.out, HKB.out⟩
  case round =>
    obtain ⟨k, hk, hown, hkp⟩ := hrel
    have hlen : (ls s ++ List.replicate k (255 : UInt8)).length = s.size + k := by rw [List.length_append, List.length_replicate, ← HL.out]
    rw [← HL.out] at hk
    obtain ⟨g, cap, rfl⟩ := hown.is hlen
    obtain ⟨M, hM⟩ : ∃ M, ls s ++ List.replicate k (255 : UInt8) = M := ⟨_, rfl⟩
    rw [hM] at hown hlen
    have HM := Lib.hid hM
    have HOW := Lib.hid hown
    have HKP := Lib.hid hkp
    obtain ⟨n, hn⟩ : ∃ n, s.size + k = n := ⟨_, rfl⟩
    rw [hn] at hlen ⊢
    rw [hn] at HOW
    have hnb : n ≤ 2000000 := by omega
    have HLN := Lib.hid hlen
    clear hM hown hkp hlen
    by_cases hlt : n < 184
    · have hltI : (n : Int) < 184 := by omega
      go_wp2_with (at_builtin; refine wp_pushT rfl _ _ rfl 255 rfl _ rfl HOW.out rfl rfl (by rw [HLN.out]; exact Nat.le_trans hnb (by decide)) HKP.out ?_; intro v3 w3 o3 k3; have HO3 := Lib.hid o3; have HK3 := Lib.hid k3; clear o3 k3)
      go_roundw
      case rel =>
        refine ⟨k + 1, by rw [← HL.out]; omega, ?_, HK3.out⟩
        rw [List.replicate_succ', ← List.append_assoc, HM.out]
        exact HO3.out
      case measure =>
        obtain ⟨g3, cap3, e3⟩ := HO3.out.is (n := n + 1) (by rw [List.length_append, HLN.out]; rfl)
        rw [e3]
        simp [sliceL]; omega
    · have hltI : ¬ (n : Int) < 184 := by omega
      have hcv := HOW.out.text
      have HE := Lib.hid (show M = f184 (ls s) by
        rw [← HM.out]
        unfold f184
        rw [← HL.out, show k = 184 - s.size by omega])
      go_wp2
      go_ret
      exact ⟨by rw [HE.out]; rfl, HKP.out⟩
/-- Are sections not too many, or too long? -/
def fewS (L : List (List UInt8)) : Bool := decide (∀ s ∈ L, s.length ≤ 1500) && decide (L.length ≤ 20)
/-- A body as a packet. -/
def mkP (b : Bool × List UInt8) : Pkt := ⟨0, b.1, 0, false, st b.2⟩
def bodP (L : List (List UInt8)) : List Pkt := (bodies L).map mkP
/-- What is left of a section in room, step by step. -/
def eatR (q : Nat × List Nat) (room r : Nat) (ns' : List Nat) : Prop := (room = 0 ∧ q = (r, ns')) ∨ (0 < room ∧ r = 0 ∧ q = eat ns' room)
theorem eatR.ends {ns' : List Nat} {q : Nat × List Nat} {room r : Nat} (h : eatR q room r ns') (k : room = 0 ∨ ns' = []) : q = (r, ns') := by
  rcases h with ⟨_, h⟩ | ⟨h1, h2, h3⟩
  · exact h
  · rcases k with k | k
    · omega
    · subst k; rw [h2, h3, eat_nil]
theorem eatR.start (ns : List Nat) (room : Nat) : eatR (eat ns room) room 0 ns := by
  by_cases h : room = 0
  · subst h; exact .inl ⟨rfl, eat_zero ns⟩
  · exact .inr ⟨by omega, rfl, rfl⟩
theorem eatR.less {t : List Nat} {q : Nat × List Nat} {room r n : Nat} (h : eatR q room r (n :: t)) (h0 : 0 < room) (k : room < n) : eatR q 0 (n - room) t := by
  rcases h with ⟨h1, _⟩ | ⟨_, _, h3⟩
  · omega
  · exact .inl ⟨rfl, by rw [h3, eat_less t (by omega) k]⟩
theorem eatR.more {t : List Nat} {q : Nat × List Nat} {room r n : Nat} (h : eatR q room r (n :: t)) (h0 : 0 < room) (k : ¬ room < n) : r = 0 ∧ eatR q (room - n) 0 t := by
  rcases h with ⟨h1, _⟩ | ⟨_, h2, h3⟩
  · omega
  · refine ⟨h2, ?_⟩
    rw [eat_more t (by omega) k] at h3
    by_cases e : room - n = 0
    · exact .inl ⟨e, by rw [h3, e, eat_zero]⟩
    · exact .inr ⟨by omega, rfl, h3⟩
/-- A packet's body is put behind the others: the values of the region, the new blocks being open. -/
def vsB (V : Value) (r n : Int) (X1 rest T X Y : ByteArray) (y : Pkt) (γ : Nat × Nat) : List Value := [V, .int .i64 r, .int .u8 r, .slice (some ⟨γ.1, 0, none⟩) 1 1, .string X1, .string rest, .int .i64 n, .string T, .string X, .string Y, pkV y, .slice (some ⟨γ.2, 0, none⟩) 1 1]
section
variable {V : Value} {r n : Int} {X1 rest T X Y : ByteArray} {y : Pkt} {L : Nat → Bool} {a a' b b' : Nat}
theorem vsB_a (h : L 3 = false) : ∀ j, L j = true → (vsB V r n X1 rest T X Y y (a', b)).getD j undef = (vsB V r n X1 rest T X Y y (a, b)).getD j undef
  | 0, k => rfl
  | 1, k => rfl
  | 2, k => rfl
  | 3, k => by rw [h] at k; cases k
  | 4, k => rfl
  | 5, k => rfl
  | 6, k => rfl
  | 7, k => rfl
  | 8, k => rfl
  | 9, k => rfl
  | 10, k => rfl
  | 11, k => rfl
  | _ + 12, _ => rfl
theorem vsB_b (h : L 11 = false) : ∀ j, L j = true → (vsB V r n X1 rest T X Y y (a, b')).getD j undef = (vsB V r n X1 rest T X Y y (a, b)).getD j undef
  | 0, k => rfl
  | 1, k => rfl
  | 2, k => rfl
  | 3, k => rfl
  | 4, k => rfl
  | 5, k => rfl
  | 6, k => rfl
  | 7, k => rfl
  | 8, k => rfl
  | 9, k => rfl
  | 10, k => rfl
  | 11, k => by rw [h] at k; cases k
  | _ + 12, _ => rfl
end
/-- The region's world, by what has been done. -/
structure BR (wr : World) (x : List UInt8) (y : Pkt) (γ : Nat × Nat) (L : Nat → Bool) (W : World) : Prop where
  kp : Keeps wr W
  one : L 3 = true → Blk γ.1 x W
  two : L 11 = true → IsE pkqT W (some ⟨γ.2, 0, none⟩) 1 [y]
theorem BR.on {wr : World} {x : List UInt8} {y : Pkt} {γ : Nat × Nat} {L L' : Nat → Bool} {W W' : World} (h : BR wr x y γ L W) {i : Nat} (h3 : 3 ≠ i) (h11 : 11 ≠ i) (k : ∀ j, L' j = true ↔ (L j = true ∨ j = i)) (hk : Keeps W W') : BR wr x y γ L' W' :=
  ⟨h.kp.trans hk, fun z => (h.one (((k 3).1 z).elim id fun q => absurd q h3)).below hk, fun z => (h.two (((k 11).1 z).elim id fun q => absurd q h11)).keeps hk⟩
theorem BR.same {wr : World} {x : List UInt8} {y : Pkt} {γ : Nat × Nat} {L L' : Nat → Bool} {W : World} (h : BR wr x y γ L W) {i : Nat} (h3 : 3 ≠ i) (h11 : 11 ≠ i) (k : ∀ j, L' j = true ↔ (L j = true ∨ j = i)) : BR wr x y γ L' W := h.on h3 h11 k (Keeps.refl W)
def bdRel (w : World) (L : List (List UInt8)) (rest out r next : Value) (wr : World) : Prop :=
  ∃ (R : List UInt8) (rr nx : Nat) (done : List (Bool × List UInt8)), rest = .string (st R) ∧ r = .int .i64 (rr : Int) ∧ next = .int .i64 (nx : Int) ∧ nx ≤ L.length ∧ Fits R.length rr ((L.drop nx).map List.length) ∧
    bodies L = done ++ bd R rr ((L.drop nx).map List.length) ∧ OwnE pkqT wr w.heap.size out (done.map mkP) ∧ Keeps w wr ∧ done.length + R.length ≤ L.flatten.length
theorem pk_take0 (s : ByteArray) (k : Nat) : s.extract 0 k = st ((ls s).take k) := by
  rw [← st_ls (s.extract 0 k), ls_part]; rfl
theorem pk_drop0 (s : ByteArray) (i : Nat) : s.extract i s.size = st ((ls s).drop i) := by
  rw [← st_ls (s.extract i s.size), ls_part]; congr 1; exact List.take_of_length_le (by rw [List.length_drop, ls_size]; omega)
def strN : Value → Nat
  | .string s => s.size
  | _ => 0
def eaRel (L : List (List UInt8)) (q : Nat × List Nat) (r next room : Value) : Prop :=
  ∃ rr nx m : Nat, r = .int .i64 (rr : Int) ∧ next = .int .i64 (nx : Int) ∧ room = .int .i64 (m : Int) ∧ nx ≤ L.length ∧ m ≤ 183 ∧ rr ≤ 4096 ∧ eatR q m rr ((L.drop nx).map List.length)
theorem drop_lens {L : List (List UInt8)} {nx : Nat} (h : nx < L.length) : (L.drop nx).map List.length = L[nx].length :: (L.drop (nx + 1)).map List.length := by
  rw [List.drop_eq_getElem_cons h, List.map_cons]
set_option maxHeartbeats 12800000 in
theorem prbodies_any {a : Option Addr} {len cap : Nat} {L : List (List UInt8)} (w : World) (h : IsT w a len L) (hs : ∀ s ∈ L, 1 ≤ s.length ∧ s.length ≤ 4096) (hn : L.length ≤ 1000) :
    Calls Tryd.prog 30 #[.slice a len cap] w fun e w' => ∃ v, e = .returned v ∧ OwnE pkqT w' w.heap.size v (bodP L) ∧ Keeps w w' := by
  obtain ⟨N, hN⟩ : ∃ N, L.length = N := ⟨_, rfl⟩
  have hl : len = N := h.1.trans hN
  subst hl
  have HI := Lib.hid h
  have HN := Lib.hid hN
  have HS := Lib.hid hs
  have hnb : len ≤ 1000 := by omega
  have hflat : ∀ k, (L.take k).flatten.length ≤ 4096 * k := fun k => by
    induction k with
    | zero => simp
    | succ k ih =>
      by_cases hk : k < L.length
      · rw [List.take_add_one, List.getElem?_eq_getElem hk, List.flatten_append, List.length_append]
        have := (hs L[k] (List.getElem_mem hk)).2
        show (L.take k).flatten.length + ([L[k]] : List (List UInt8)).flatten.length ≤ _
        rw [List.flatten_cons, List.flatten_nil, List.append_nil]
        omega
      · rw [List.take_of_length_le (by omega)] at ih ⊢
        omega
  have HFL := Lib.hid hflat
  clear h hN hs hn hflat
  go_enter Tryd.func30, Tryd.ntmps30
  go_wp2
  go_loop [3, 4] (fun s i => ∃ k : Nat, k ≤ len ∧ i = .int .i64 (k : Int) ∧ s = .string (st (L.take k).flatten)) (fun _ i => len - (intOf i).toNat)
  case atStart => exact ⟨0, Nat.zero_le _, rfl, rfl⟩
  case round =>
    obtain ⟨k, hk, rfl, rfl⟩ := hrel
    by_cases hlt : k < len
    · have hltI : (k : Int) < (len : Int) := by omega
      have hkL : k < L.length := by rw [HN.out]; exact hlt
      obtain ⟨b, off, rfl, hcell⟩ := HI.out.get hkL
      have hf := HFL.out k
      have HT := Lib.hid (show st (L.take k).flatten ++ st (L.getD k []) = st (L.take (k + 1)).flatten by
        rw [st_append, List.take_add_one, List.getElem?_eq_getElem hkL, List.flatten_append, List.getD_eq_getElem?_getD, List.getElem?_eq_getElem hkL]; simp)
      obtain ⟨A, hA⟩ : ∃ A, st (L.take k).flatten = A := ⟨_, rfl⟩
      have hAz : A.size ≤ 4096 * 1000 := by rw [← hA, st_size]; omega
      have hBz : (st (L.getD k [])).size ≤ 4096 := by
        rw [st_size, List.getD_eq_getElem?_getD, List.getElem?_eq_getElem hkL]; exact (HS.out L[k] (List.getElem_mem hkL)).2
      obtain ⟨B', hB⟩ : ∃ B', st (L.getD k []) = B' := ⟨_, rfl⟩
      rw [hB] at hcell hBz HT
      rw [hA] at HT ⊢
      have wr1 := wrapI (a := (k : Int) + 1) (by omega) (by omega)
      have f1 : ¬ 9223372036854775807 < A.size + B'.size := by omega
      clear hA hB hf
      go_wp2
      go_round
      case rel => exact ⟨k + 1, by omega, by go_num, by rw [HT.out]⟩
      case measure => simp [intOf]; omega
    · have hltI : ¬ (k : Int) < (len : Int) := by omega
      have HA := Lib.hid (show L.take k = L from List.take_of_length_le (by rw [HN.out]; omega))
      rw [HA.out]
      have HF0 := Lib.hid (fits_all HS.out)
      go_wp2
      go_loopw [3, 5, 6, 7] (fun rest out r next wr => bdRel w L rest out r next wr) (fun rest _ _ _ _ => strN rest)
      case atStart => exact ⟨L.flatten, 0, 0, [], rfl, rfl, rfl, Nat.zero_le _, by rw [List.drop_zero]; exact HF0.out, by rw [List.drop_zero, List.nil_append]; exact bodies_bd L, OwnE.nil _ _, Keeps.refl w, by simp⟩
      case round =>
        obtain ⟨R, r, nx, done, rfl, rfl, rfl, hnx, hfit, hbod, hown, hkp, hdn⟩ := hrel
        have hfb := HFL.out len
        rw [List.take_of_length_le (by rw [HN.out]; omega)] at hfb
        have hRb : R.length ≤ 4096 * 1000 := by omega
        have HDB := Lib.hid (show done.length ≤ 4096 * 1000 by omega)
        have HOW := Lib.hid hown
        have HKW := Lib.hid hkp
        have HBO := Lib.hid hbod
        have HFI0 := Lib.hid hfit
        have HDN := Lib.hid hdn
        rw [HN.out] at hnx
        have hr96 := hfit.2.1
        obtain ⟨ns, hns⟩ : ∃ ns, (L.drop nx).map List.length = ns := ⟨_, rfl⟩
        have HNS := Lib.hid hns
        rw [hns] at HBO HFI0
        have hnsz : (ns = [] ↔ nx = len) := by
          rw [← hns, List.map_eq_nil_iff, List.drop_eq_nil_iff, HN.out]; omega
        clear hown hkp hbod hfit hdn hns hfb
        by_cases hR0 : R.length = 0
        · have hz : R = [] := List.length_eq_zero_iff.1 hR0
          have HE := Lib.hid (show done.map mkP = bodP L by rw [hz, bd_nil, List.append_nil] at HBO; unfold bodP; rw [HBO.out])
          have hzs : (st R).size = 0 := by rw [st_size]; exact hR0
          obtain ⟨S, hS⟩ : ∃ S, st R = S := ⟨_, rfl⟩
          rw [hS] at hzs ⊢
          clear hS hz hR0
          go_wp2
          go_ret
          exact ⟨_, rfl, by rw [← HE.out]; exact HOW.out, HKW.out⟩
        have hRn : R ≠ [] := fun e => hR0 (by rw [e]; rfl)
        have hzp : 0 < (st R).size := by rw [st_size]; omega
        have hzI : (0 : Int) < ((st R).size : Int) := by omega
        have hSz := st_size R
        have HDR := Lib.hid (fun k => show (st R).extract k (st R).size = st (R.drop k) from by have := pk_drop0 (st R) k; rwa [ls_st] at this)
        have HTK := Lib.hid (fun k => show (st R).extract 0 k = st (R.take k) from by have := pk_take0 (st R) k; rwa [ls_st] at this)
        have hsb : R.length = r + ns.sum := HFI0.out.1
        by_cases h183 : 183 ≤ r
        · have h183i : (183 : Int) ≤ (r : Int) := by omega
          have HM0 := Lib.hid (HFI0.out.mid h183)
          have HB0 := Lib.hid (bd_mid (ns := ns) hRn h183)
          rcases (show r = 183 ∨ r = 184 ∨ 184 < r by omega) with rfl | rfl | h184
          · have hmi : min (183 : Int) 184 = 183 := by omega
            have HM := Lib.hid (show Fits (R.length - 183) (183 - 183) ns by have := HM0.out; rwa [show min 183 184 = 183 by omega] at this)
            have HB := Lib.hid (show bd R 183 ns = (false, R.take 183) :: bd (R.drop 183) (183 - 183) ns by have := HB0.out; rwa [show min 183 184 = 183 by omega] at this)
            have hmR : 183 ≤ R.length := by omega
            have hmRi : (183 : Int) ≤ ((st R).size : Int) := by rw [hSz]; omega
            have x1 := HDR.out 183
            have x2 := HTK.out 183
            obtain ⟨T, hT⟩ : ∃ T, st (R.take 183) = T := ⟨_, rfl⟩
            obtain ⟨U, hU⟩ : ∃ U, st (R.drop 183) = U := ⟨_, rfl⟩
            have hUz : U.size = R.length - 183 := by rw [← hU, st_size, List.length_drop]
            rw [hU] at x1
            rw [hT] at x2
            obtain ⟨S, hS⟩ : ∃ S, st R = S := ⟨_, rfl⟩
            rw [hS] at x1 x2 hzp hzI hSz hmRi
            rw [hS]
            have HT := Lib.hid hT
            have HU := Lib.hid hU
            have HUZ := Lib.hid hUz
            have hSzH := Lib.hid hSz
            clear hT hU hUz hS hSz hsb hR0 HM0 HB0
            go_wp2_with (at_builtin; refine wp_pushE (T := pkqT) rfl _ _ rfl ⟨0, false, 0, false, T⟩ #[.int .i64 0, .bool false, .int .i64 0, .bool false, .string T] rfl wr.heap.size rfl HOW.out rfl rfl (by rw [List.length_map]; have := HDB.out; omega) (Below.size HKW.out) 37 ?_; intro v3 w3 o3 g3 _; have HO3 := Lib.hid o3; have HK3 := Lib.hid ((HKW.out.alloc (.cells #[.int .i64 0, .bool false, .int .i64 0, .bool false, .string T] 37)).grown g3 HOW.out.block); clear o3 g3)
            go_roundw
            case rel => exact ⟨R.drop 183, 183 - 183, nx, done ++ [(false, R.take 183)], by rw [HU.out], by first | rfl | (simp only [Value.int.injEq, true_and]; omega), rfl, by rw [HN.out]; exact hnx, by rw [HNS.out, List.length_drop]; exact HM.out, by rw [HNS.out, HBO.out, HB.out, List.append_assoc]; rfl, by rw [List.map_append, List.map_cons, List.map_nil]; show OwnE pkqT _ _ _ (done.map mkP ++ [⟨0, false, 0, false, st (R.take 183)⟩]); rw [HT.out]; exact HO3.out, HK3.out, by rw [List.length_append, List.length_drop, List.length_singleton]; have := HDN.out; omega⟩
            case measure => simp only [strN]; rw [HUZ.out, hSzH.out]; omega
          · have hmi : min (184 : Int) 184 = 184 := by omega
            have HM := Lib.hid (show Fits (R.length - 184) (184 - 184) ns by have := HM0.out; rwa [show min 184 184 = 184 by omega] at this)
            have HB := Lib.hid (show bd R 184 ns = (false, R.take 184) :: bd (R.drop 184) (184 - 184) ns by have := HB0.out; rwa [show min 184 184 = 184 by omega] at this)
            have hmR : 184 ≤ R.length := by omega
            have hmRi : (184 : Int) ≤ ((st R).size : Int) := by rw [hSz]; omega
            have x1 := HDR.out 184
            have x2 := HTK.out 184
            obtain ⟨T, hT⟩ : ∃ T, st (R.take 184) = T := ⟨_, rfl⟩
            obtain ⟨U, hU⟩ : ∃ U, st (R.drop 184) = U := ⟨_, rfl⟩
            have hUz : U.size = R.length - 184 := by rw [← hU, st_size, List.length_drop]
            rw [hU] at x1
            rw [hT] at x2
            obtain ⟨S, hS⟩ : ∃ S, st R = S := ⟨_, rfl⟩
            rw [hS] at x1 x2 hzp hzI hSz hmRi
            rw [hS]
            have HT := Lib.hid hT
            have HU := Lib.hid hU
            have HUZ := Lib.hid hUz
            have hSzH := Lib.hid hSz
            clear hT hU hUz hS hSz hsb hR0 HM0 HB0
            go_wp2_with (at_builtin; refine wp_pushE (T := pkqT) rfl _ _ rfl ⟨0, false, 0, false, T⟩ #[.int .i64 0, .bool false, .int .i64 0, .bool false, .string T] rfl wr.heap.size rfl HOW.out rfl rfl (by rw [List.length_map]; have := HDB.out; omega) (Below.size HKW.out) 37 ?_; intro v3 w3 o3 g3 _; have HO3 := Lib.hid o3; have HK3 := Lib.hid ((HKW.out.alloc (.cells #[.int .i64 0, .bool false, .int .i64 0, .bool false, .string T] 37)).grown g3 HOW.out.block); clear o3 g3)
            go_roundw
            case rel => exact ⟨R.drop 184, 184 - 184, nx, done ++ [(false, R.take 184)], by rw [HU.out], by first | rfl | (simp only [Value.int.injEq, true_and]; omega), rfl, by rw [HN.out]; exact hnx, by rw [HNS.out, List.length_drop]; exact HM.out, by rw [HNS.out, HBO.out, HB.out, List.append_assoc]; rfl, by rw [List.map_append, List.map_cons, List.map_nil]; show OwnE pkqT _ _ _ (done.map mkP ++ [⟨0, false, 0, false, st (R.take 184)⟩]); rw [HT.out]; exact HO3.out, HK3.out, by rw [List.length_append, List.length_drop, List.length_singleton]; have := HDN.out; omega⟩
            case measure => simp only [strN]; rw [HUZ.out, hSzH.out]; omega
          · have hmi : min (r : Int) 184 = 184 := by omega
            have h184i : (184 : Int) < (r : Int) := by omega
            have h184j : ¬ (r : Int) ≤ 184 := by omega
            have wr1 := wrapI (a := (r : Int) - 184) (by omega) (by omega)
            have HM := Lib.hid (show Fits (R.length - 184) (r - 184) ns by have := HM0.out; rwa [show min r 184 = 184 by omega] at this)
            have HB := Lib.hid (show bd R r ns = (false, R.take 184) :: bd (R.drop 184) (r - 184) ns by have := HB0.out; rwa [show min r 184 = 184 by omega] at this)
            have hmR : 184 ≤ R.length := by omega
            have hmRi : (184 : Int) ≤ ((st R).size : Int) := by rw [hSz]; omega
            have x1 := HDR.out 184
            have x2 := HTK.out 184
            obtain ⟨T, hT⟩ : ∃ T, st (R.take 184) = T := ⟨_, rfl⟩
            obtain ⟨U, hU⟩ : ∃ U, st (R.drop 184) = U := ⟨_, rfl⟩
            have hUz : U.size = R.length - 184 := by rw [← hU, st_size, List.length_drop]
            rw [hU] at x1
            rw [hT] at x2
            obtain ⟨S, hS⟩ : ∃ S, st R = S := ⟨_, rfl⟩
            rw [hS] at x1 x2 hzp hzI hSz hmRi
            rw [hS]
            have HT := Lib.hid hT
            have HU := Lib.hid hU
            have HUZ := Lib.hid hUz
            have hSzH := Lib.hid hSz
            clear hT hU hUz hS hSz hsb hR0 HM0 HB0
            go_wp2_with (at_builtin; refine wp_pushE (T := pkqT) rfl _ _ rfl ⟨0, false, 0, false, T⟩ #[.int .i64 0, .bool false, .int .i64 0, .bool false, .string T] rfl wr.heap.size rfl HOW.out rfl rfl (by rw [List.length_map]; have := HDB.out; omega) (Below.size HKW.out) 37 ?_; intro v3 w3 o3 g3 _; have HO3 := Lib.hid o3; have HK3 := Lib.hid ((HKW.out.alloc (.cells #[.int .i64 0, .bool false, .int .i64 0, .bool false, .string T] 37)).grown g3 HOW.out.block); clear o3 g3)
            go_roundw
            case rel => exact ⟨R.drop 184, r - 184, nx, done ++ [(false, R.take 184)], by rw [HU.out], by first | rfl | (simp only [Value.int.injEq, true_and]; omega), rfl, by rw [HN.out]; exact hnx, by rw [HNS.out, List.length_drop]; exact HM.out, by rw [HNS.out, HBO.out, HB.out, List.append_assoc]; rfl, by rw [List.map_append, List.map_cons, List.map_nil]; show OwnE pkqT _ _ _ (done.map mkP ++ [⟨0, false, 0, false, st (R.take 184)⟩]); rw [HT.out]; exact HO3.out, HK3.out, by rw [List.length_append, List.length_drop, List.length_singleton]; have := HDN.out; omega⟩
            case measure => simp only [strN]; rw [HUZ.out, hSzH.out]; omega
        have h183i : ¬ (183 : Int) ≤ (r : Int) := by omega
        by_cases hend : 0 < r ∧ ns = []
        · obtain ⟨hr0, hnil⟩ := hend
          have hnl : nx = len := hnsz.1 hnil
          subst hnl
          have hr0i : (0 : Int) < (r : Int) := by omega
          have HE := Lib.hid (show done.map mkP ++ [⟨0, false, 0, false, st (f184 R)⟩] = bodP L by
            have := HBO.out
            rw [hnil, bd_end hRn h183 hr0] at this
            unfold bodP
            rw [this, List.map_append]; rfl)
          have HFD := Lib.hid (fun W => rprfilled_any W (st R) W (by rw [st_size]; have := hsb; rw [hnil] at this; simp at this; omega) (Keeps.refl W))
          rw [ls_st] at HFD
          obtain ⟨Y, hY⟩ : ∃ Y, st (f184 R) = Y := ⟨_, rfl⟩
          rw [hY] at HFD HE
          obtain ⟨S, hS⟩ : ∃ S, st R = S := ⟨_, rfl⟩
          rw [hS] at hzp hzI HFD
          rw [hS]
          clear hS hY hSz hsb hR0 hnil HDR HTK
          go_wp2_with (first | (go_at_call 39; refine (HFD.out _).mono ?_; rintro _ w2 ⟨rfl, k2⟩; have HO2 := Lib.hid (HOW.out.keeps k2); have HK2 := Lib.hid (HKW.out.trans k2); clear k2) | (at_builtin; refine wp_pushE (T := pkqT) rfl _ _ rfl ⟨0, false, 0, false, Y⟩ #[.int .i64 0, .bool false, .int .i64 0, .bool false, .string Y] rfl w2.heap.size rfl HO2.out rfl rfl (by rw [List.length_map]; have := HDB.out; omega) (Below.size HK2.out) 37 ?_; intro v3 w3 o3 g3 _; have HO3 := Lib.hid o3; have HK3 := Lib.hid ((HK2.out.alloc (.cells #[.int .i64 0, .bool false, .int .i64 0, .bool false, .string Y] 37)).grown g3 HO2.out.block); clear o3 g3))
          go_ret
          exact ⟨_, rfl, by rw [← HE.out]; exact HO3.out, HK3.out⟩
        obtain ⟨hne, hrm, hft⟩ := HFI0.out.start hR0 h183 hend
        have hB := bd_start hRn h183 hend
        have hnl : nx < len := by
          have : nx ≠ len := fun e => hne (hnsz.2 e)
          omega
        have hnb1 : ((nx : Int) == (len : Int)) = false := by rw [beq_eq_false_iff_ne]; omega
        have hnb2 : ¬ (nx : Int) = (len : Int) := by omega
        have hr182 : r ≤ 182 := by omega
        rcases (show R.length < 183 ∨ R.length = 183 ∨ 183 < R.length by omega) with hlong | hlong | hlong
        · by_cases hr0 : r = 0
          · subst hr0
            have HQ := Lib.hid (show Fits (R.length - 183) (eat ns (R.length)).1 (eat ns (R.length)).2 by have := hft; rwa [show min 183 R.length = R.length by omega] at this)
            have HB := Lib.hid (show bd R 0 ns = (true, f184 (UInt8.ofNat 0 :: R.take R.length)) :: bd (R.drop R.length) (eat ns (R.length)).1 (eat ns (R.length)).2 by rw [hB, show min 183 R.length = R.length by omega, Nat.sub_zero, show R.take 183 = R.take R.length from (List.take_of_length_le (by omega)).trans (List.take_length).symm, show R.drop 183 = R.drop R.length from (List.drop_of_length_le (by omega)).trans (List.drop_of_length_le (Nat.le_refl _)).symm])
            obtain ⟨x1, hx1⟩ : ∃ x, UInt8.ofNat 0 = x := ⟨_, rfl⟩
            rw [hx1] at HB
            have HCL := Lib.hid (show #[.int .u8 0] = ([x1].map B).toArray by rw [← hx1]; show _ = #[B (UInt8.ofNat 0)]; unfold B; rw [toNat_of (by omega)]; rfl)
            obtain ⟨X1, hX1⟩ : ∃ X, st [x1] = X := ⟨_, rfl⟩
            have HX1 := Lib.hid hX1
            have hX1z : X1.size = 1 := by rw [← hX1]; rfl
            have x2 := HDR.out R.length
            have x3 := HTK.out R.length
            rw [List.drop_of_length_le (Nat.le_refl _)] at x2
            obtain ⟨T, hT⟩ : ∃ T, st (R.take R.length) = T := ⟨_, rfl⟩
            have hTz : T.size ≤ 183 := by rw [← hT, st_size, List.length_take]; omega
            have hls : ls (X1 ++ T) = x1 :: R.take R.length := by rw [ls_append, ← hX1, ← hT, ls_st, ls_st]; rfl
            have HFI := Lib.hid (fun W => rprfilled_any W (X1 ++ T) W (by rw [ByteArray.size_append]; omega) (Keeps.refl W))
            rw [hls] at HFI
            obtain ⟨X, hX⟩ : ∃ X, X1 ++ T = X := ⟨_, rfl⟩
            rw [hX] at HFI
            obtain ⟨Y, hY⟩ : ∃ Y, st (f184 (x1 :: R.take R.length)) = Y := ⟨_, rfl⟩
            rw [hY] at HFI
            have HY := Lib.hid hY
            rw [hT] at x3
            obtain ⟨U, hU⟩ : ∃ U, st [] = U := ⟨_, rfl⟩
            have HU := Lib.hid (show U = st (R.drop R.length) by rw [← hU]; rw [List.drop_of_length_le (Nat.le_refl _)])
            have HUZ := Lib.hid (show U.size = R.length - R.length by rw [← hU, st_size]; show 0 = _; omega)
            rw [hU] at x2
            rw [← hSz] at x2 x3
            obtain ⟨S, hS⟩ : ∃ S, st R = S := ⟨_, rfl⟩
            rw [hS] at x2 x3 hzp hzI hSz
            rw [hS]
            have HSZ := Lib.hid hSz
            have f1 : ¬ 9223372036854775807 < 1 + T.size := by omega
            have hmi : min (183 : Int) (S.size : Int) = (S.size : Int) := by omega
            have hs1 : (S.size : Int) < 183 := by omega
            have hm0 : (S.size : Int) = ((R.length : Nat) : Int) := by omega
            have HM0 := Lib.hid (hm0)
            clear hm0
            clear hx1 hX1 hT hls hY hU hS hB hft HDR HTK HFI0 hsb hR0 hSz
            go_wp2
            refine wp_draw_ht (Γ := Nat × Nat) 12 (by kernel_rfl) (vsB u5 0 (S.size : Int) X1 S T X Y ⟨0, true, 0, false, Y⟩) (fun γ => BR wr [x1] ⟨0, true, 0, false, Y⟩ γ) rfl (by kernel_rfl) (by kernel_rfl) ?fin0 ?hfin0 (0, 0) ⟨(Keeps.refl wr).eqv (Eqv.drew wr), (fun x => by cases x), (fun x => by cases x)⟩ ?each0 ?hend0
            case hfin0 => intro γ; simp [vsB, seqA, dstOf, Act.put]; rfl
            case each0 =>
              refine ⟨?_, ?_, ?_, ?_, ?_, ?_, ?_, ?_, ?_, ?_, ?_, ?_, trivial⟩
              all_goals intro γ L w5 h0 hd hs hw
              all_goals unfold Does
              · go_simp
                exact Goes.on (fun _ => rfl) fun L' k => hw.same (by decide) (by decide) k
              · go_simp
                exact Goes.on (fun _ => rfl) fun L' k => hw.same (by decide) (by decide) k
              · go_simp
                exact Goes.on (fun _ => rfl) fun L' k => hw.same (by decide) (by decide) k
              · try simp only [Nat.zero_add, Nat.reduceAdd] at h0
                go_simp
                refine ⟨(w5.heap.size, γ.2), vsB_a h0, fun _ => rfl, fun L' k => ?_⟩
                have ka : Keeps w5 (w5.alloc (.cells #[.int .u8 0] 5)) := (Keeps.refl w5).alloc _
                exact ⟨hw.kp.trans ka, fun _ => by rw [HCL.out]; exact Blk.lit w5 [x1] _, fun z => (hw.two (((k 11).1 z).elim id fun q => absurd q (by decide))).keeps ka⟩
              · have hcv := (hw.one (hd 3 (by kernel_rfl))).whole 1 (n := 1) rfl
                rw [HX1.out] at hcv
                go_simp
                exact Goes.on (fun _ => rfl) fun L' k => hw.same (by decide) (by decide) k
              · go_simp
                exact Goes.on (fun _ => rfl) fun L' k => hw.same (by decide) (by decide) k
              · go_simp
                exact Goes.on (fun _ => rfl) fun L' k => hw.same (by decide) (by decide) k
              · go_simp
                exact Goes.on (fun _ => rfl) fun L' k => hw.same (by decide) (by decide) k
              · go_simp
                exact Goes.on (fun _ => rfl) fun L' k => hw.same (by decide) (by decide) k
              · go_simp
                refine (HFI.out w5).mono ?_
                rintro e w6 ⟨rfl, hk6⟩
                exact ⟨_, rfl, Goes.on (fun _ => rfl) fun L' k => hw.on (by decide) (by decide) k hk6⟩
              · go_simp
                exact Goes.on (fun _ => rfl) fun L' k => hw.same (by decide) (by decide) k
              · try simp only [Nat.zero_add, Nat.reduceAdd] at h0
                go_simp
                refine ⟨(γ.1, w5.heap.size), vsB_b h0, fun _ => rfl, fun L' k => ?_⟩
                have ka : Keeps w5 (w5.alloc (.cells #[.int .i64 0, .bool true, .int .i64 0, .bool false, .string Y] 37)) := (Keeps.refl w5).alloc _
                exact ⟨hw.kp.trans ka, fun z => (hw.one (((k 3).1 z).elim id fun q => absurd q (by decide))).below ka, fun _ => IsE.lit (T := pkqT) w5 [⟨0, true, 0, false, Y⟩] #[.int .i64 0, .bool true, .int .i64 0, .bool false, .string Y] _ rfl rfl⟩
            case hend0 =>
            intro γ L8 w8 hL hw
            have HTW := Lib.hid (hw.two (hL 11 (by decide)))
            have HO8 := Lib.hid (HOW.out.keeps hw.kp)
            have HK8 := Lib.hid (HKW.out.trans hw.kp)
            simp only [List.drop_succ_cons, List.drop_zero]
            clear hw hL
            go_wp2_with (at_builtin; refine wp_catE (T := pkqT) rfl _ _ rfl HO8.out rfl rfl HTW.out (by simp) (by rw [List.length_map]; have := HDB.out; show _ + 1 ≤ _; omega) (Below.size HK8.out) ?_; intro v9 w9 o9 g9 _; have HO9 := Lib.hid o9; have HK9 := Lib.hid (HK8.out.grown g9 HO8.out.block); have HI9 := Lib.hid (HI.out.keeps (HK8.out.grown g9 HO8.out.block)); clear o9 g9)
            have HRP := Lib.hid (show 0 < R.length by omega)
            go_loop [6, 7, 10] (fun r2 n2 m => eaRel L (eat ns (R.length)) r2 n2 m) (fun _ n2 _ => len - (intOf n2).toNat)
            case atStart => exact ⟨0, nx, R.length, rfl, rfl, by first | rfl | rw [HM0.out], by rw [HN.out]; exact hnx, by omega, by omega, by rw [HNS.out]; exact eatR.start ns _⟩
            case round =>
              obtain ⟨r2, n2, m, rfl, rfl, rfl, hn2, hm, hr2, hea⟩ := hrel
              rw [HN.out] at hn2
              have HN2 := Lib.hid hn2
              by_cases hm0 : 0 < m
              · have hm0i : (0 : Int) < (m : Int) := by omega
                by_cases hlt : n2 < len
                · have hlti : (n2 : Int) < (len : Int) := by omega
                  have hkL : n2 < L.length := by rw [HN.out]; exact hlt
                  obtain ⟨b, off, rfl, hcell⟩ := HI9.out.get hkL
                  rw [List.getD_eq_getElem?_getD, List.getElem?_eq_getElem hkL] at hcell
                  simp only [Option.getD_some] at hcell
                  have hl96 := HS.out L[n2] (List.getElem_mem hkL)
                  rw [drop_lens hkL] at hea
                  obtain ⟨n3, hn3⟩ : ∃ n3, L[n2].length = n3 := ⟨_, rfl⟩
                  rw [hn3] at hea hl96
                  obtain ⟨Z, hZ⟩ : ∃ Z, st L[n2] = Z := ⟨_, rfl⟩
                  have hZz : Z.size = n3 := by rw [← hZ, st_size]; exact hn3
                  rw [hZ] at hcell
                  have wr2 := wrapI (a := (n2 : Int) + 1) (by omega) (by omega)
                  have wr3 := wrapI (a := (m : Int) - (n3 : Int)) (by omega) (by omega)
                  have wr4 := wrapI (a := (n3 : Int) - (m : Int)) (by omega) (by omega)
                  clear hn3 hZ
                  by_cases hgt : m < n3
                  · have hgti : (m : Int) < (n3 : Int) := by omega
                    have HEA := Lib.hid (hea.less hm0 hgt)
                    have hc3 : (n3 : Int) - (m : Int) = ((n3 - m : Nat) : Int) := by omega
                    have HC3 := Lib.hid hc3
                    clear hea hc3
                    go_wp2
                    go_round
                    case rel => exact ⟨n3 - m, n2 + 1, 0, by rw [HC3.out], by go_num, rfl, by rw [HN.out]; omega, by omega, by omega, HEA.out⟩
                    case measure => simp [intOf]; omega
                  · have hgti : ¬ (m : Int) < (n3 : Int) := by omega
                    obtain ⟨rfl, hea2⟩ := hea.more hm0 hgt
                    have HEA := Lib.hid hea2
                    have hc3 : (m : Int) - (n3 : Int) = ((m - n3 : Nat) : Int) := by omega
                    have HC3 := Lib.hid hc3
                    clear hea hea2 hc3
                    go_wp2
                    go_round
                    case rel => exact ⟨0, n2 + 1, m - n3, rfl, by go_num, by rw [HC3.out], by rw [HN.out]; omega, by omega, by omega, HEA.out⟩
                    case measure => simp [intOf]; omega
                · have hlti : ¬ (n2 : Int) < (len : Int) := by omega
                  have HQE := Lib.hid (hea.ends (.inr (by rw [List.map_eq_nil_iff, List.drop_eq_nil_iff, HN.out]; omega)))
                  go_wp2
                  go_roundw
                  case rel => exact ⟨R.drop R.length, r2, n2, done ++ [(true, f184 (x1 :: R.take R.length))], by first | rw [HU.out] | (rw [List.drop_length]; rfl) | (rw [List.drop_of_length_le (by omega)]; rfl), rfl, rfl, by rw [HN.out]; exact HN2.out, by have := HQ.out; rw [HQE.out] at this; rw [List.length_drop]; rwa [show R.length - R.length = R.length - 183 by omega], by rw [HBO.out, HB.out, HQE.out, List.append_assoc]; rfl, by rw [List.map_append, List.map_cons, List.map_nil]; show OwnE pkqT _ _ _ (done.map mkP ++ [⟨0, true, 0, false, st (f184 (x1 :: R.take R.length))⟩]); rw [HY.out]; exact HO9.out, HK9.out, by rw [List.length_append, List.length_drop, List.length_singleton]; have := HDN.out; have := HRP.out; omega⟩
                  case measure => simp only [strN]; rw [HSZ.out]; exact HRP.out
              · obtain rfl : m = 0 := by omega
                have HQE := Lib.hid (hea.ends (.inl rfl))
                go_wp2
                go_roundw
                case rel => exact ⟨R.drop R.length, r2, n2, done ++ [(true, f184 (x1 :: R.take R.length))], by first | rw [HU.out] | (rw [List.drop_length]; rfl) | (rw [List.drop_of_length_le (by omega)]; rfl), rfl, rfl, by rw [HN.out]; exact HN2.out, by have := HQ.out; rw [HQE.out] at this; rw [List.length_drop]; rwa [show R.length - R.length = R.length - 183 by omega], by rw [HBO.out, HB.out, HQE.out, List.append_assoc]; rfl, by rw [List.map_append, List.map_cons, List.map_nil]; show OwnE pkqT _ _ _ (done.map mkP ++ [⟨0, true, 0, false, st (f184 (x1 :: R.take R.length))⟩]); rw [HY.out]; exact HO9.out, HK9.out, by rw [List.length_append, List.length_drop, List.length_singleton]; have := HDN.out; have := HRP.out; omega⟩
                case measure => simp only [strN]; rw [HSZ.out]; exact HRP.out
          · have hrp : 0 < r := by omega
            have HQ := Lib.hid (show Fits (R.length - 183) (eat ns (R.length - r)).1 (eat ns (R.length - r)).2 by have := hft; rwa [show min 183 R.length = R.length by omega] at this)
            have HB := Lib.hid (show bd R r ns = (true, f184 (UInt8.ofNat r :: R.take R.length)) :: bd (R.drop R.length) (eat ns (R.length - r)).1 (eat ns (R.length - r)).2 by rw [hB, show min 183 R.length = R.length by omega, show R.take 183 = R.take R.length from (List.take_of_length_le (by omega)).trans (List.take_length).symm, show R.drop 183 = R.drop R.length from (List.drop_of_length_le (by omega)).trans (List.drop_of_length_le (Nat.le_refl _)).symm])
            obtain ⟨x1, hx1⟩ : ∃ x, UInt8.ofNat r = x := ⟨_, rfl⟩
            rw [hx1] at HB
            have HCL := Lib.hid (show #[.int .u8 (r : Int)] = ([x1].map B).toArray by rw [← hx1]; show _ = #[B (UInt8.ofNat r)]; unfold B; rw [toNat_of (by omega)])
            obtain ⟨X1, hX1⟩ : ∃ X, st [x1] = X := ⟨_, rfl⟩
            have HX1 := Lib.hid hX1
            have hX1z : X1.size = 1 := by rw [← hX1]; rfl
            have x2 := HDR.out R.length
            have x3 := HTK.out R.length
            rw [List.drop_of_length_le (Nat.le_refl _)] at x2
            obtain ⟨T, hT⟩ : ∃ T, st (R.take R.length) = T := ⟨_, rfl⟩
            have hTz : T.size ≤ 183 := by rw [← hT, st_size, List.length_take]; omega
            have hls : ls (X1 ++ T) = x1 :: R.take R.length := by rw [ls_append, ← hX1, ← hT, ls_st, ls_st]; rfl
            have HFI := Lib.hid (fun W => rprfilled_any W (X1 ++ T) W (by rw [ByteArray.size_append]; omega) (Keeps.refl W))
            rw [hls] at HFI
            obtain ⟨X, hX⟩ : ∃ X, X1 ++ T = X := ⟨_, rfl⟩
            rw [hX] at HFI
            obtain ⟨Y, hY⟩ : ∃ Y, st (f184 (x1 :: R.take R.length)) = Y := ⟨_, rfl⟩
            rw [hY] at HFI
            have HY := Lib.hid hY
            rw [hT] at x3
            obtain ⟨U, hU⟩ : ∃ U, st [] = U := ⟨_, rfl⟩
            have HU := Lib.hid (show U = st (R.drop R.length) by rw [← hU]; rw [List.drop_of_length_le (Nat.le_refl _)])
            have HUZ := Lib.hid (show U.size = R.length - R.length by rw [← hU, st_size]; show 0 = _; omega)
            rw [hU] at x2
            rw [← hSz] at x2 x3
            obtain ⟨S, hS⟩ : ∃ S, st R = S := ⟨_, rfl⟩
            rw [hS] at x2 x3 hzp hzI hSz
            rw [hS]
            have HSZ := Lib.hid hSz
            have f1 : ¬ 9223372036854775807 < 1 + T.size := by omega
            have hmi : min (183 : Int) (S.size : Int) = (S.size : Int) := by omega
            have hs1 : (S.size : Int) < 183 := by omega
            have hrS : (r : Int) ≤ (S.size : Int) := by omega
            have hm0 : (S.size : Int) - (r : Int) = (((R.length - r) : Nat) : Int) := by omega
            have hr0i : (0 : Int) < (r : Int) := by omega
            have wr8 : IntKind.u8.wrap (r : Int) = (r : Int) := by simp [IntKind.wrap, IntKind.bits, IntKind.signed]; omega
            have HM0 := Lib.hid (hm0)
            clear hm0
            clear hx1 hX1 hT hls hY hU hS hB hft HDR HTK HFI0 hsb hR0 hSz
            go_wp2
            refine wp_draw_ht (Γ := Nat × Nat) 12 (by kernel_rfl) (vsB u5 (r : Int) (S.size : Int) X1 S T X Y ⟨0, true, 0, false, Y⟩) (fun γ => BR wr [x1] ⟨0, true, 0, false, Y⟩ γ) rfl (by kernel_rfl) (by kernel_rfl) ?fin1 ?hfin1 (0, 0) ⟨(Keeps.refl wr).eqv (Eqv.drew wr), (fun x => by cases x), (fun x => by cases x)⟩ ?each1 ?hend1
            case hfin1 => intro γ; simp [vsB, seqA, dstOf, Act.put]; rfl
            case each1 =>
              refine ⟨?_, ?_, ?_, ?_, ?_, ?_, ?_, ?_, ?_, ?_, ?_, ?_, trivial⟩
              all_goals intro γ L w5 h0 hd hs hw
              all_goals unfold Does
              · go_simp
                exact Goes.on (fun _ => rfl) fun L' k => hw.same (by decide) (by decide) k
              · go_simp
                exact Goes.on (fun _ => rfl) fun L' k => hw.same (by decide) (by decide) k
              · go_simp
                exact Goes.on (fun _ => rfl) fun L' k => hw.same (by decide) (by decide) k
              · try simp only [Nat.zero_add, Nat.reduceAdd] at h0
                go_simp
                refine ⟨(w5.heap.size, γ.2), vsB_a h0, fun _ => rfl, fun L' k => ?_⟩
                have ka : Keeps w5 (w5.alloc (.cells #[.int .u8 (r : Int)] 5)) := (Keeps.refl w5).alloc _
                exact ⟨hw.kp.trans ka, fun _ => by rw [HCL.out]; exact Blk.lit w5 [x1] _, fun z => (hw.two (((k 11).1 z).elim id fun q => absurd q (by decide))).keeps ka⟩
              · have hcv := (hw.one (hd 3 (by kernel_rfl))).whole 1 (n := 1) rfl
                rw [HX1.out] at hcv
                go_simp
                exact Goes.on (fun _ => rfl) fun L' k => hw.same (by decide) (by decide) k
              · go_simp
                exact Goes.on (fun _ => rfl) fun L' k => hw.same (by decide) (by decide) k
              · go_simp
                exact Goes.on (fun _ => rfl) fun L' k => hw.same (by decide) (by decide) k
              · go_simp
                exact Goes.on (fun _ => rfl) fun L' k => hw.same (by decide) (by decide) k
              · go_simp
                exact Goes.on (fun _ => rfl) fun L' k => hw.same (by decide) (by decide) k
              · go_simp
                refine (HFI.out w5).mono ?_
                rintro e w6 ⟨rfl, hk6⟩
                exact ⟨_, rfl, Goes.on (fun _ => rfl) fun L' k => hw.on (by decide) (by decide) k hk6⟩
              · go_simp
                exact Goes.on (fun _ => rfl) fun L' k => hw.same (by decide) (by decide) k
              · try simp only [Nat.zero_add, Nat.reduceAdd] at h0
                go_simp
                refine ⟨(γ.1, w5.heap.size), vsB_b h0, fun _ => rfl, fun L' k => ?_⟩
                have ka : Keeps w5 (w5.alloc (.cells #[.int .i64 0, .bool true, .int .i64 0, .bool false, .string Y] 37)) := (Keeps.refl w5).alloc _
                exact ⟨hw.kp.trans ka, fun z => (hw.one (((k 3).1 z).elim id fun q => absurd q (by decide))).below ka, fun _ => IsE.lit (T := pkqT) w5 [⟨0, true, 0, false, Y⟩] #[.int .i64 0, .bool true, .int .i64 0, .bool false, .string Y] _ rfl rfl⟩
            case hend1 =>
            intro γ L8 w8 hL hw
            have HTW := Lib.hid (hw.two (hL 11 (by decide)))
            have HO8 := Lib.hid (HOW.out.keeps hw.kp)
            have HK8 := Lib.hid (HKW.out.trans hw.kp)
            simp only [List.drop_succ_cons, List.drop_zero]
            clear hw hL
            go_wp2_with (at_builtin; refine wp_catE (T := pkqT) rfl _ _ rfl HO8.out rfl rfl HTW.out (by simp) (by rw [List.length_map]; have := HDB.out; show _ + 1 ≤ _; omega) (Below.size HK8.out) ?_; intro v9 w9 o9 g9 _; have HO9 := Lib.hid o9; have HK9 := Lib.hid (HK8.out.grown g9 HO8.out.block); have HI9 := Lib.hid (HI.out.keeps (HK8.out.grown g9 HO8.out.block)); clear o9 g9)
            have HRP := Lib.hid (show 0 < R.length by omega)
            go_loop [6, 7, 10] (fun r2 n2 m => eaRel L (eat ns (R.length - r)) r2 n2 m) (fun _ n2 _ => len - (intOf n2).toNat)
            case atStart => exact ⟨0, nx, R.length - r, rfl, rfl, by first | rfl | rw [HM0.out], by rw [HN.out]; exact hnx, by omega, by omega, by rw [HNS.out]; exact eatR.start ns _⟩
            case round =>
              obtain ⟨r2, n2, m, rfl, rfl, rfl, hn2, hm, hr2, hea⟩ := hrel
              rw [HN.out] at hn2
              have HN2 := Lib.hid hn2
              by_cases hm0 : 0 < m
              · have hm0i : (0 : Int) < (m : Int) := by omega
                by_cases hlt : n2 < len
                · have hlti : (n2 : Int) < (len : Int) := by omega
                  have hkL : n2 < L.length := by rw [HN.out]; exact hlt
                  obtain ⟨b, off, rfl, hcell⟩ := HI9.out.get hkL
                  rw [List.getD_eq_getElem?_getD, List.getElem?_eq_getElem hkL] at hcell
                  simp only [Option.getD_some] at hcell
                  have hl96 := HS.out L[n2] (List.getElem_mem hkL)
                  rw [drop_lens hkL] at hea
                  obtain ⟨n3, hn3⟩ : ∃ n3, L[n2].length = n3 := ⟨_, rfl⟩
                  rw [hn3] at hea hl96
                  obtain ⟨Z, hZ⟩ : ∃ Z, st L[n2] = Z := ⟨_, rfl⟩
                  have hZz : Z.size = n3 := by rw [← hZ, st_size]; exact hn3
                  rw [hZ] at hcell
                  have wr2 := wrapI (a := (n2 : Int) + 1) (by omega) (by omega)
                  have wr3 := wrapI (a := (m : Int) - (n3 : Int)) (by omega) (by omega)
                  have wr4 := wrapI (a := (n3 : Int) - (m : Int)) (by omega) (by omega)
                  clear hn3 hZ
                  by_cases hgt : m < n3
                  · have hgti : (m : Int) < (n3 : Int) := by omega
                    have HEA := Lib.hid (hea.less hm0 hgt)
                    have hc3 : (n3 : Int) - (m : Int) = ((n3 - m : Nat) : Int) := by omega
                    have HC3 := Lib.hid hc3
                    clear hea hc3
                    go_wp2
                    go_round
                    case rel => exact ⟨n3 - m, n2 + 1, 0, by rw [HC3.out], by go_num, rfl, by rw [HN.out]; omega, by omega, by omega, HEA.out⟩
                    case measure => simp [intOf]; omega
                  · have hgti : ¬ (m : Int) < (n3 : Int) := by omega
                    obtain ⟨rfl, hea2⟩ := hea.more hm0 hgt
                    have HEA := Lib.hid hea2
                    have hc3 : (m : Int) - (n3 : Int) = ((m - n3 : Nat) : Int) := by omega
                    have HC3 := Lib.hid hc3
                    clear hea hea2 hc3
                    go_wp2
                    go_round
                    case rel => exact ⟨0, n2 + 1, m - n3, rfl, by go_num, by rw [HC3.out], by rw [HN.out]; omega, by omega, by omega, HEA.out⟩
                    case measure => simp [intOf]; omega
                · have hlti : ¬ (n2 : Int) < (len : Int) := by omega
                  have HQE := Lib.hid (hea.ends (.inr (by rw [List.map_eq_nil_iff, List.drop_eq_nil_iff, HN.out]; omega)))
                  go_wp2
                  go_roundw
                  case rel => exact ⟨R.drop R.length, r2, n2, done ++ [(true, f184 (x1 :: R.take R.length))], by first | rw [HU.out] | (rw [List.drop_length]; rfl) | (rw [List.drop_of_length_le (by omega)]; rfl), rfl, rfl, by rw [HN.out]; exact HN2.out, by have := HQ.out; rw [HQE.out] at this; rw [List.length_drop]; rwa [show R.length - R.length = R.length - 183 by omega], by rw [HBO.out, HB.out, HQE.out, List.append_assoc]; rfl, by rw [List.map_append, List.map_cons, List.map_nil]; show OwnE pkqT _ _ _ (done.map mkP ++ [⟨0, true, 0, false, st (f184 (x1 :: R.take R.length))⟩]); rw [HY.out]; exact HO9.out, HK9.out, by rw [List.length_append, List.length_drop, List.length_singleton]; have := HDN.out; have := HRP.out; omega⟩
                  case measure => simp only [strN]; rw [HSZ.out]; exact HRP.out
              · obtain rfl : m = 0 := by omega
                have HQE := Lib.hid (hea.ends (.inl rfl))
                go_wp2
                go_roundw
                case rel => exact ⟨R.drop R.length, r2, n2, done ++ [(true, f184 (x1 :: R.take R.length))], by first | rw [HU.out] | (rw [List.drop_length]; rfl) | (rw [List.drop_of_length_le (by omega)]; rfl), rfl, rfl, by rw [HN.out]; exact HN2.out, by have := HQ.out; rw [HQE.out] at this; rw [List.length_drop]; rwa [show R.length - R.length = R.length - 183 by omega], by rw [HBO.out, HB.out, HQE.out, List.append_assoc]; rfl, by rw [List.map_append, List.map_cons, List.map_nil]; show OwnE pkqT _ _ _ (done.map mkP ++ [⟨0, true, 0, false, st (f184 (x1 :: R.take R.length))⟩]); rw [HY.out]; exact HO9.out, HK9.out, by rw [List.length_append, List.length_drop, List.length_singleton]; have := HDN.out; have := HRP.out; omega⟩
                case measure => simp only [strN]; rw [HSZ.out]; exact HRP.out
        · by_cases hr0 : r = 0
          · subst hr0
            have HQ := Lib.hid (show Fits (R.length - 183) (eat ns (183)).1 (eat ns (183)).2 by have := hft; rwa [show min 183 R.length = 183 by omega] at this)
            have HB := Lib.hid (show bd R 0 ns = (true, f184 (UInt8.ofNat 0 :: R.take 183)) :: bd (R.drop 183) (eat ns (183)).1 (eat ns (183)).2 by rw [hB, show min 183 R.length = 183 by omega, Nat.sub_zero])
            obtain ⟨x1, hx1⟩ : ∃ x, UInt8.ofNat 0 = x := ⟨_, rfl⟩
            rw [hx1] at HB
            have HCL := Lib.hid (show #[.int .u8 0] = ([x1].map B).toArray by rw [← hx1]; show _ = #[B (UInt8.ofNat 0)]; unfold B; rw [toNat_of (by omega)]; rfl)
            obtain ⟨X1, hX1⟩ : ∃ X, st [x1] = X := ⟨_, rfl⟩
            have HX1 := Lib.hid hX1
            have hX1z : X1.size = 1 := by rw [← hX1]; rfl
            have x2 := HDR.out 183
            have x3 := HTK.out 183
            obtain ⟨T, hT⟩ : ∃ T, st (R.take 183) = T := ⟨_, rfl⟩
            have hTz : T.size ≤ 183 := by rw [← hT, st_size, List.length_take]; omega
            have hls : ls (X1 ++ T) = x1 :: R.take 183 := by rw [ls_append, ← hX1, ← hT, ls_st, ls_st]; rfl
            have HFI := Lib.hid (fun W => rprfilled_any W (X1 ++ T) W (by rw [ByteArray.size_append]; omega) (Keeps.refl W))
            rw [hls] at HFI
            obtain ⟨X, hX⟩ : ∃ X, X1 ++ T = X := ⟨_, rfl⟩
            rw [hX] at HFI
            obtain ⟨Y, hY⟩ : ∃ Y, st (f184 (x1 :: R.take 183)) = Y := ⟨_, rfl⟩
            rw [hY] at HFI
            have HY := Lib.hid hY
            rw [hT] at x3
            obtain ⟨U, hU⟩ : ∃ U, st (R.drop 183) = U := ⟨_, rfl⟩
            have HU := Lib.hid (show U = st (R.drop 183) by rw [← hU])
            have HUZ := Lib.hid (show U.size = R.length - 183 by rw [← hU, st_size]; rw [List.length_drop])
            rw [hU] at x2
            rw [hSz, hlong] at x2
            obtain ⟨S, hS⟩ : ∃ S, st R = S := ⟨_, rfl⟩
            rw [hS] at x2 x3 hzp hzI hSz
            rw [hS]
            have HSZ := Lib.hid hSz
            have f1 : ¬ 9223372036854775807 < 1 + T.size := by omega
            have hsz3 : S.size = 183 := by omega
            have HM0 := Lib.hid (show (183 : Int) = ((183 : Nat) : Int) from rfl)
            clear hx1 hX1 hT hls hY hU hS hB hft HDR HTK HFI0 hsb hR0 hSz
            go_wp2
            refine wp_draw_ht (Γ := Nat × Nat) 12 (by kernel_rfl) (vsB u5 0 183 X1 S T X Y ⟨0, true, 0, false, Y⟩) (fun γ => BR wr [x1] ⟨0, true, 0, false, Y⟩ γ) rfl (by kernel_rfl) (by kernel_rfl) ?fin2 ?hfin2 (0, 0) ⟨(Keeps.refl wr).eqv (Eqv.drew wr), (fun x => by cases x), (fun x => by cases x)⟩ ?each2 ?hend2
            case hfin2 => intro γ; simp [vsB, seqA, dstOf, Act.put]; rfl
            case each2 =>
              refine ⟨?_, ?_, ?_, ?_, ?_, ?_, ?_, ?_, ?_, ?_, ?_, ?_, trivial⟩
              all_goals intro γ L w5 h0 hd hs hw
              all_goals unfold Does
              · go_simp
                exact Goes.on (fun _ => rfl) fun L' k => hw.same (by decide) (by decide) k
              · go_simp
                exact Goes.on (fun _ => rfl) fun L' k => hw.same (by decide) (by decide) k
              · go_simp
                exact Goes.on (fun _ => rfl) fun L' k => hw.same (by decide) (by decide) k
              · try simp only [Nat.zero_add, Nat.reduceAdd] at h0
                go_simp
                refine ⟨(w5.heap.size, γ.2), vsB_a h0, fun _ => rfl, fun L' k => ?_⟩
                have ka : Keeps w5 (w5.alloc (.cells #[.int .u8 0] 5)) := (Keeps.refl w5).alloc _
                exact ⟨hw.kp.trans ka, fun _ => by rw [HCL.out]; exact Blk.lit w5 [x1] _, fun z => (hw.two (((k 11).1 z).elim id fun q => absurd q (by decide))).keeps ka⟩
              · have hcv := (hw.one (hd 3 (by kernel_rfl))).whole 1 (n := 1) rfl
                rw [HX1.out] at hcv
                go_simp
                exact Goes.on (fun _ => rfl) fun L' k => hw.same (by decide) (by decide) k
              · go_simp
                exact Goes.on (fun _ => rfl) fun L' k => hw.same (by decide) (by decide) k
              · go_simp
                exact Goes.on (fun _ => rfl) fun L' k => hw.same (by decide) (by decide) k
              · go_simp
                exact Goes.on (fun _ => rfl) fun L' k => hw.same (by decide) (by decide) k
              · go_simp
                exact Goes.on (fun _ => rfl) fun L' k => hw.same (by decide) (by decide) k
              · go_simp
                refine (HFI.out w5).mono ?_
                rintro e w6 ⟨rfl, hk6⟩
                exact ⟨_, rfl, Goes.on (fun _ => rfl) fun L' k => hw.on (by decide) (by decide) k hk6⟩
              · go_simp
                exact Goes.on (fun _ => rfl) fun L' k => hw.same (by decide) (by decide) k
              · try simp only [Nat.zero_add, Nat.reduceAdd] at h0
                go_simp
                refine ⟨(γ.1, w5.heap.size), vsB_b h0, fun _ => rfl, fun L' k => ?_⟩
                have ka : Keeps w5 (w5.alloc (.cells #[.int .i64 0, .bool true, .int .i64 0, .bool false, .string Y] 37)) := (Keeps.refl w5).alloc _
                exact ⟨hw.kp.trans ka, fun z => (hw.one (((k 3).1 z).elim id fun q => absurd q (by decide))).below ka, fun _ => IsE.lit (T := pkqT) w5 [⟨0, true, 0, false, Y⟩] #[.int .i64 0, .bool true, .int .i64 0, .bool false, .string Y] _ rfl rfl⟩
            case hend2 =>
            intro γ L8 w8 hL hw
            have HTW := Lib.hid (hw.two (hL 11 (by decide)))
            have HO8 := Lib.hid (HOW.out.keeps hw.kp)
            have HK8 := Lib.hid (HKW.out.trans hw.kp)
            simp only [List.drop_succ_cons, List.drop_zero]
            clear hw hL
            go_wp2_with (at_builtin; refine wp_catE (T := pkqT) rfl _ _ rfl HO8.out rfl rfl HTW.out (by simp) (by rw [List.length_map]; have := HDB.out; show _ + 1 ≤ _; omega) (Below.size HK8.out) ?_; intro v9 w9 o9 g9 _; have HO9 := Lib.hid o9; have HK9 := Lib.hid (HK8.out.grown g9 HO8.out.block); have HI9 := Lib.hid (HI.out.keeps (HK8.out.grown g9 HO8.out.block)); clear o9 g9)
            have HRP := Lib.hid (show 0 < R.length by omega)
            go_loop [6, 7, 10] (fun r2 n2 m => eaRel L (eat ns (183)) r2 n2 m) (fun _ n2 _ => len - (intOf n2).toNat)
            case atStart => exact ⟨0, nx, 183, rfl, rfl, by first | rfl | rw [HM0.out], by rw [HN.out]; exact hnx, by omega, by omega, by rw [HNS.out]; exact eatR.start ns _⟩
            case round =>
              obtain ⟨r2, n2, m, rfl, rfl, rfl, hn2, hm, hr2, hea⟩ := hrel
              rw [HN.out] at hn2
              have HN2 := Lib.hid hn2
              by_cases hm0 : 0 < m
              · have hm0i : (0 : Int) < (m : Int) := by omega
                by_cases hlt : n2 < len
                · have hlti : (n2 : Int) < (len : Int) := by omega
                  have hkL : n2 < L.length := by rw [HN.out]; exact hlt
                  obtain ⟨b, off, rfl, hcell⟩ := HI9.out.get hkL
                  rw [List.getD_eq_getElem?_getD, List.getElem?_eq_getElem hkL] at hcell
                  simp only [Option.getD_some] at hcell
                  have hl96 := HS.out L[n2] (List.getElem_mem hkL)
                  rw [drop_lens hkL] at hea
                  obtain ⟨n3, hn3⟩ : ∃ n3, L[n2].length = n3 := ⟨_, rfl⟩
                  rw [hn3] at hea hl96
                  obtain ⟨Z, hZ⟩ : ∃ Z, st L[n2] = Z := ⟨_, rfl⟩
                  have hZz : Z.size = n3 := by rw [← hZ, st_size]; exact hn3
                  rw [hZ] at hcell
                  have wr2 := wrapI (a := (n2 : Int) + 1) (by omega) (by omega)
                  have wr3 := wrapI (a := (m : Int) - (n3 : Int)) (by omega) (by omega)
                  have wr4 := wrapI (a := (n3 : Int) - (m : Int)) (by omega) (by omega)
                  clear hn3 hZ
                  by_cases hgt : m < n3
                  · have hgti : (m : Int) < (n3 : Int) := by omega
                    have HEA := Lib.hid (hea.less hm0 hgt)
                    have hc3 : (n3 : Int) - (m : Int) = ((n3 - m : Nat) : Int) := by omega
                    have HC3 := Lib.hid hc3
                    clear hea hc3
                    go_wp2
                    go_round
                    case rel => exact ⟨n3 - m, n2 + 1, 0, by rw [HC3.out], by go_num, rfl, by rw [HN.out]; omega, by omega, by omega, HEA.out⟩
                    case measure => simp [intOf]; omega
                  · have hgti : ¬ (m : Int) < (n3 : Int) := by omega
                    obtain ⟨rfl, hea2⟩ := hea.more hm0 hgt
                    have HEA := Lib.hid hea2
                    have hc3 : (m : Int) - (n3 : Int) = ((m - n3 : Nat) : Int) := by omega
                    have HC3 := Lib.hid hc3
                    clear hea hea2 hc3
                    go_wp2
                    go_round
                    case rel => exact ⟨0, n2 + 1, m - n3, rfl, by go_num, by rw [HC3.out], by rw [HN.out]; omega, by omega, by omega, HEA.out⟩
                    case measure => simp [intOf]; omega
                · have hlti : ¬ (n2 : Int) < (len : Int) := by omega
                  have HQE := Lib.hid (hea.ends (.inr (by rw [List.map_eq_nil_iff, List.drop_eq_nil_iff, HN.out]; omega)))
                  go_wp2
                  go_roundw
                  case rel => exact ⟨R.drop 183, r2, n2, done ++ [(true, f184 (x1 :: R.take 183))], by first | rw [HU.out] | (rw [List.drop_length]; rfl) | (rw [List.drop_of_length_le (by omega)]; rfl), rfl, rfl, by rw [HN.out]; exact HN2.out, by have := HQ.out; rw [HQE.out] at this; rw [List.length_drop]; rwa [show R.length - 183 = R.length - 183 by omega], by rw [HBO.out, HB.out, HQE.out, List.append_assoc]; rfl, by rw [List.map_append, List.map_cons, List.map_nil]; show OwnE pkqT _ _ _ (done.map mkP ++ [⟨0, true, 0, false, st (f184 (x1 :: R.take 183))⟩]); rw [HY.out]; exact HO9.out, HK9.out, by rw [List.length_append, List.length_drop, List.length_singleton]; have := HDN.out; have := HRP.out; omega⟩
                  case measure => simp only [strN]; rw [HSZ.out]; exact HRP.out
              · obtain rfl : m = 0 := by omega
                have HQE := Lib.hid (hea.ends (.inl rfl))
                go_wp2
                go_roundw
                case rel => exact ⟨R.drop 183, r2, n2, done ++ [(true, f184 (x1 :: R.take 183))], by first | rw [HU.out] | (rw [List.drop_length]; rfl) | (rw [List.drop_of_length_le (by omega)]; rfl), rfl, rfl, by rw [HN.out]; exact HN2.out, by have := HQ.out; rw [HQE.out] at this; rw [List.length_drop]; rwa [show R.length - 183 = R.length - 183 by omega], by rw [HBO.out, HB.out, HQE.out, List.append_assoc]; rfl, by rw [List.map_append, List.map_cons, List.map_nil]; show OwnE pkqT _ _ _ (done.map mkP ++ [⟨0, true, 0, false, st (f184 (x1 :: R.take 183))⟩]); rw [HY.out]; exact HO9.out, HK9.out, by rw [List.length_append, List.length_drop, List.length_singleton]; have := HDN.out; have := HRP.out; omega⟩
                case measure => simp only [strN]; rw [HSZ.out]; exact HRP.out
          · have hrp : 0 < r := by omega
            have HQ := Lib.hid (show Fits (R.length - 183) (eat ns (183 - r)).1 (eat ns (183 - r)).2 by have := hft; rwa [show min 183 R.length = 183 by omega] at this)
            have HB := Lib.hid (show bd R r ns = (true, f184 (UInt8.ofNat r :: R.take 183)) :: bd (R.drop 183) (eat ns (183 - r)).1 (eat ns (183 - r)).2 by rw [hB, show min 183 R.length = 183 by omega])
            obtain ⟨x1, hx1⟩ : ∃ x, UInt8.ofNat r = x := ⟨_, rfl⟩
            rw [hx1] at HB
            have HCL := Lib.hid (show #[.int .u8 (r : Int)] = ([x1].map B).toArray by rw [← hx1]; show _ = #[B (UInt8.ofNat r)]; unfold B; rw [toNat_of (by omega)])
            obtain ⟨X1, hX1⟩ : ∃ X, st [x1] = X := ⟨_, rfl⟩
            have HX1 := Lib.hid hX1
            have hX1z : X1.size = 1 := by rw [← hX1]; rfl
            have x2 := HDR.out 183
            have x3 := HTK.out 183
            obtain ⟨T, hT⟩ : ∃ T, st (R.take 183) = T := ⟨_, rfl⟩
            have hTz : T.size ≤ 183 := by rw [← hT, st_size, List.length_take]; omega
            have hls : ls (X1 ++ T) = x1 :: R.take 183 := by rw [ls_append, ← hX1, ← hT, ls_st, ls_st]; rfl
            have HFI := Lib.hid (fun W => rprfilled_any W (X1 ++ T) W (by rw [ByteArray.size_append]; omega) (Keeps.refl W))
            rw [hls] at HFI
            obtain ⟨X, hX⟩ : ∃ X, X1 ++ T = X := ⟨_, rfl⟩
            rw [hX] at HFI
            obtain ⟨Y, hY⟩ : ∃ Y, st (f184 (x1 :: R.take 183)) = Y := ⟨_, rfl⟩
            rw [hY] at HFI
            have HY := Lib.hid hY
            rw [hT] at x3
            obtain ⟨U, hU⟩ : ∃ U, st (R.drop 183) = U := ⟨_, rfl⟩
            have HU := Lib.hid (show U = st (R.drop 183) by rw [← hU])
            have HUZ := Lib.hid (show U.size = R.length - 183 by rw [← hU, st_size]; rw [List.length_drop])
            rw [hU] at x2
            rw [hSz, hlong] at x2
            obtain ⟨S, hS⟩ : ∃ S, st R = S := ⟨_, rfl⟩
            rw [hS] at x2 x3 hzp hzI hSz
            rw [hS]
            have HSZ := Lib.hid hSz
            have f1 : ¬ 9223372036854775807 < 1 + T.size := by omega
            have hsz3 : S.size = 183 := by omega
            have hm0 : 183 - (r : Int) = (((183 - r) : Nat) : Int) := by omega
            have hr0i : (0 : Int) < (r : Int) := by omega
            have wr8 : IntKind.u8.wrap (r : Int) = (r : Int) := by simp [IntKind.wrap, IntKind.bits, IntKind.signed]; omega
            have HM0 := Lib.hid (hm0)
            clear hm0
            clear hx1 hX1 hT hls hY hU hS hB hft HDR HTK HFI0 hsb hR0 hSz
            go_wp2
            refine wp_draw_ht (Γ := Nat × Nat) 12 (by kernel_rfl) (vsB u5 (r : Int) 183 X1 S T X Y ⟨0, true, 0, false, Y⟩) (fun γ => BR wr [x1] ⟨0, true, 0, false, Y⟩ γ) rfl (by kernel_rfl) (by kernel_rfl) ?fin3 ?hfin3 (0, 0) ⟨(Keeps.refl wr).eqv (Eqv.drew wr), (fun x => by cases x), (fun x => by cases x)⟩ ?each3 ?hend3
            case hfin3 => intro γ; simp [vsB, seqA, dstOf, Act.put]; rfl
            case each3 =>
              refine ⟨?_, ?_, ?_, ?_, ?_, ?_, ?_, ?_, ?_, ?_, ?_, ?_, trivial⟩
              all_goals intro γ L w5 h0 hd hs hw
              all_goals unfold Does
              · go_simp
                exact Goes.on (fun _ => rfl) fun L' k => hw.same (by decide) (by decide) k
              · go_simp
                exact Goes.on (fun _ => rfl) fun L' k => hw.same (by decide) (by decide) k
              · go_simp
                exact Goes.on (fun _ => rfl) fun L' k => hw.same (by decide) (by decide) k
              · try simp only [Nat.zero_add, Nat.reduceAdd] at h0
                go_simp
                refine ⟨(w5.heap.size, γ.2), vsB_a h0, fun _ => rfl, fun L' k => ?_⟩
                have ka : Keeps w5 (w5.alloc (.cells #[.int .u8 (r : Int)] 5)) := (Keeps.refl w5).alloc _
                exact ⟨hw.kp.trans ka, fun _ => by rw [HCL.out]; exact Blk.lit w5 [x1] _, fun z => (hw.two (((k 11).1 z).elim id fun q => absurd q (by decide))).keeps ka⟩
              · have hcv := (hw.one (hd 3 (by kernel_rfl))).whole 1 (n := 1) rfl
                rw [HX1.out] at hcv
                go_simp
                exact Goes.on (fun _ => rfl) fun L' k => hw.same (by decide) (by decide) k
              · go_simp
                exact Goes.on (fun _ => rfl) fun L' k => hw.same (by decide) (by decide) k
              · go_simp
                exact Goes.on (fun _ => rfl) fun L' k => hw.same (by decide) (by decide) k
              · go_simp
                exact Goes.on (fun _ => rfl) fun L' k => hw.same (by decide) (by decide) k
              · go_simp
                exact Goes.on (fun _ => rfl) fun L' k => hw.same (by decide) (by decide) k
              · go_simp
                refine (HFI.out w5).mono ?_
                rintro e w6 ⟨rfl, hk6⟩
                exact ⟨_, rfl, Goes.on (fun _ => rfl) fun L' k => hw.on (by decide) (by decide) k hk6⟩
              · go_simp
                exact Goes.on (fun _ => rfl) fun L' k => hw.same (by decide) (by decide) k
              · try simp only [Nat.zero_add, Nat.reduceAdd] at h0
                go_simp
                refine ⟨(γ.1, w5.heap.size), vsB_b h0, fun _ => rfl, fun L' k => ?_⟩
                have ka : Keeps w5 (w5.alloc (.cells #[.int .i64 0, .bool true, .int .i64 0, .bool false, .string Y] 37)) := (Keeps.refl w5).alloc _
                exact ⟨hw.kp.trans ka, fun z => (hw.one (((k 3).1 z).elim id fun q => absurd q (by decide))).below ka, fun _ => IsE.lit (T := pkqT) w5 [⟨0, true, 0, false, Y⟩] #[.int .i64 0, .bool true, .int .i64 0, .bool false, .string Y] _ rfl rfl⟩
            case hend3 =>
            intro γ L8 w8 hL hw
            have HTW := Lib.hid (hw.two (hL 11 (by decide)))
            have HO8 := Lib.hid (HOW.out.keeps hw.kp)
            have HK8 := Lib.hid (HKW.out.trans hw.kp)
            simp only [List.drop_succ_cons, List.drop_zero]
            clear hw hL
            go_wp2_with (at_builtin; refine wp_catE (T := pkqT) rfl _ _ rfl HO8.out rfl rfl HTW.out (by simp) (by rw [List.length_map]; have := HDB.out; show _ + 1 ≤ _; omega) (Below.size HK8.out) ?_; intro v9 w9 o9 g9 _; have HO9 := Lib.hid o9; have HK9 := Lib.hid (HK8.out.grown g9 HO8.out.block); have HI9 := Lib.hid (HI.out.keeps (HK8.out.grown g9 HO8.out.block)); clear o9 g9)
            have HRP := Lib.hid (show 0 < R.length by omega)
            go_loop [6, 7, 10] (fun r2 n2 m => eaRel L (eat ns (183 - r)) r2 n2 m) (fun _ n2 _ => len - (intOf n2).toNat)
            case atStart => exact ⟨0, nx, 183 - r, rfl, rfl, by first | rfl | rw [HM0.out], by rw [HN.out]; exact hnx, by omega, by omega, by rw [HNS.out]; exact eatR.start ns _⟩
            case round =>
              obtain ⟨r2, n2, m, rfl, rfl, rfl, hn2, hm, hr2, hea⟩ := hrel
              rw [HN.out] at hn2
              have HN2 := Lib.hid hn2
              by_cases hm0 : 0 < m
              · have hm0i : (0 : Int) < (m : Int) := by omega
                by_cases hlt : n2 < len
                · have hlti : (n2 : Int) < (len : Int) := by omega
                  have hkL : n2 < L.length := by rw [HN.out]; exact hlt
                  obtain ⟨b, off, rfl, hcell⟩ := HI9.out.get hkL
                  rw [List.getD_eq_getElem?_getD, List.getElem?_eq_getElem hkL] at hcell
                  simp only [Option.getD_some] at hcell
                  have hl96 := HS.out L[n2] (List.getElem_mem hkL)
                  rw [drop_lens hkL] at hea
                  obtain ⟨n3, hn3⟩ : ∃ n3, L[n2].length = n3 := ⟨_, rfl⟩
                  rw [hn3] at hea hl96
                  obtain ⟨Z, hZ⟩ : ∃ Z, st L[n2] = Z := ⟨_, rfl⟩
                  have hZz : Z.size = n3 := by rw [← hZ, st_size]; exact hn3
                  rw [hZ] at hcell
                  have wr2 := wrapI (a := (n2 : Int) + 1) (by omega) (by omega)
                  have wr3 := wrapI (a := (m : Int) - (n3 : Int)) (by omega) (by omega)
                  have wr4 := wrapI (a := (n3 : Int) - (m : Int)) (by omega) (by omega)
                  clear hn3 hZ
                  by_cases hgt : m < n3
                  · have hgti : (m : Int) < (n3 : Int) := by omega
                    have HEA := Lib.hid (hea.less hm0 hgt)
                    have hc3 : (n3 : Int) - (m : Int) = ((n3 - m : Nat) : Int) := by omega
                    have HC3 := Lib.hid hc3
                    clear hea hc3
                    go_wp2
                    go_round
                    case rel => exact ⟨n3 - m, n2 + 1, 0, by rw [HC3.out], by go_num, rfl, by rw [HN.out]; omega, by omega, by omega, HEA.out⟩
                    case measure => simp [intOf]; omega
                  · have hgti : ¬ (m : Int) < (n3 : Int) := by omega
                    obtain ⟨rfl, hea2⟩ := hea.more hm0 hgt
                    have HEA := Lib.hid hea2
                    have hc3 : (m : Int) - (n3 : Int) = ((m - n3 : Nat) : Int) := by omega
                    have HC3 := Lib.hid hc3
                    clear hea hea2 hc3
                    go_wp2
                    go_round
                    case rel => exact ⟨0, n2 + 1, m - n3, rfl, by go_num, by rw [HC3.out], by rw [HN.out]; omega, by omega, by omega, HEA.out⟩
                    case measure => simp [intOf]; omega
                · have hlti : ¬ (n2 : Int) < (len : Int) := by omega
                  have HQE := Lib.hid (hea.ends (.inr (by rw [List.map_eq_nil_iff, List.drop_eq_nil_iff, HN.out]; omega)))
                  go_wp2
                  go_roundw
                  case rel => exact ⟨R.drop 183, r2, n2, done ++ [(true, f184 (x1 :: R.take 183))], by first | rw [HU.out] | (rw [List.drop_length]; rfl) | (rw [List.drop_of_length_le (by omega)]; rfl), rfl, rfl, by rw [HN.out]; exact HN2.out, by have := HQ.out; rw [HQE.out] at this; rw [List.length_drop]; rwa [show R.length - 183 = R.length - 183 by omega], by rw [HBO.out, HB.out, HQE.out, List.append_assoc]; rfl, by rw [List.map_append, List.map_cons, List.map_nil]; show OwnE pkqT _ _ _ (done.map mkP ++ [⟨0, true, 0, false, st (f184 (x1 :: R.take 183))⟩]); rw [HY.out]; exact HO9.out, HK9.out, by rw [List.length_append, List.length_drop, List.length_singleton]; have := HDN.out; have := HRP.out; omega⟩
                  case measure => simp only [strN]; rw [HSZ.out]; exact HRP.out
              · obtain rfl : m = 0 := by omega
                have HQE := Lib.hid (hea.ends (.inl rfl))
                go_wp2
                go_roundw
                case rel => exact ⟨R.drop 183, r2, n2, done ++ [(true, f184 (x1 :: R.take 183))], by first | rw [HU.out] | (rw [List.drop_length]; rfl) | (rw [List.drop_of_length_le (by omega)]; rfl), rfl, rfl, by rw [HN.out]; exact HN2.out, by have := HQ.out; rw [HQE.out] at this; rw [List.length_drop]; rwa [show R.length - 183 = R.length - 183 by omega], by rw [HBO.out, HB.out, HQE.out, List.append_assoc]; rfl, by rw [List.map_append, List.map_cons, List.map_nil]; show OwnE pkqT _ _ _ (done.map mkP ++ [⟨0, true, 0, false, st (f184 (x1 :: R.take 183))⟩]); rw [HY.out]; exact HO9.out, HK9.out, by rw [List.length_append, List.length_drop, List.length_singleton]; have := HDN.out; have := HRP.out; omega⟩
                case measure => simp only [strN]; rw [HSZ.out]; exact HRP.out
        · by_cases hr0 : r = 0
          · subst hr0
            have HQ := Lib.hid (show Fits (R.length - 183) (eat ns (183)).1 (eat ns (183)).2 by have := hft; rwa [show min 183 R.length = 183 by omega] at this)
            have HB := Lib.hid (show bd R 0 ns = (true, f184 (UInt8.ofNat 0 :: R.take 183)) :: bd (R.drop 183) (eat ns (183)).1 (eat ns (183)).2 by rw [hB, show min 183 R.length = 183 by omega, Nat.sub_zero])
            obtain ⟨x1, hx1⟩ : ∃ x, UInt8.ofNat 0 = x := ⟨_, rfl⟩
            rw [hx1] at HB
            have HCL := Lib.hid (show #[.int .u8 0] = ([x1].map B).toArray by rw [← hx1]; show _ = #[B (UInt8.ofNat 0)]; unfold B; rw [toNat_of (by omega)]; rfl)
            obtain ⟨X1, hX1⟩ : ∃ X, st [x1] = X := ⟨_, rfl⟩
            have HX1 := Lib.hid hX1
            have hX1z : X1.size = 1 := by rw [← hX1]; rfl
            have x2 := HDR.out 183
            have x3 := HTK.out 183
            obtain ⟨T, hT⟩ : ∃ T, st (R.take 183) = T := ⟨_, rfl⟩
            have hTz : T.size ≤ 183 := by rw [← hT, st_size, List.length_take]; omega
            have hls : ls (X1 ++ T) = x1 :: R.take 183 := by rw [ls_append, ← hX1, ← hT, ls_st, ls_st]; rfl
            have HFI := Lib.hid (fun W => rprfilled_any W (X1 ++ T) W (by rw [ByteArray.size_append]; omega) (Keeps.refl W))
            rw [hls] at HFI
            obtain ⟨X, hX⟩ : ∃ X, X1 ++ T = X := ⟨_, rfl⟩
            rw [hX] at HFI
            obtain ⟨Y, hY⟩ : ∃ Y, st (f184 (x1 :: R.take 183)) = Y := ⟨_, rfl⟩
            rw [hY] at HFI
            have HY := Lib.hid hY
            rw [hT] at x3
            obtain ⟨U, hU⟩ : ∃ U, st (R.drop 183) = U := ⟨_, rfl⟩
            have HU := Lib.hid (show U = st (R.drop 183) by rw [← hU])
            have HUZ := Lib.hid (show U.size = R.length - 183 by rw [← hU, st_size]; rw [List.length_drop])
            rw [hU] at x2
            obtain ⟨S, hS⟩ : ∃ S, st R = S := ⟨_, rfl⟩
            rw [hS] at x2 x3 hzp hzI hSz
            rw [hS]
            have HSZ := Lib.hid hSz
            have f1 : ¬ 9223372036854775807 < 1 + T.size := by omega
            have hmi : min (183 : Int) (S.size : Int) = 183 := by omega
            have hs1 : (183 : Int) < (S.size : Int) := by omega
            have hs2 : ¬ (S.size : Int) ≤ 183 := by omega
            have hs3 : (183 : Int) ≤ (S.size : Int) := by omega
            have HM0 := Lib.hid (show (183 : Int) = ((183 : Nat) : Int) from rfl)
            clear hx1 hX1 hT hls hY hU hS hB hft HDR HTK HFI0 hsb hR0 hSz
            go_wp2
            refine wp_draw_ht (Γ := Nat × Nat) 12 (by kernel_rfl) (vsB u5 0 183 X1 S T X Y ⟨0, true, 0, false, Y⟩) (fun γ => BR wr [x1] ⟨0, true, 0, false, Y⟩ γ) rfl (by kernel_rfl) (by kernel_rfl) ?fin4 ?hfin4 (0, 0) ⟨(Keeps.refl wr).eqv (Eqv.drew wr), (fun x => by cases x), (fun x => by cases x)⟩ ?each4 ?hend4
            case hfin4 => intro γ; simp [vsB, seqA, dstOf, Act.put]; rfl
            case each4 =>
              refine ⟨?_, ?_, ?_, ?_, ?_, ?_, ?_, ?_, ?_, ?_, ?_, ?_, trivial⟩
              all_goals intro γ L w5 h0 hd hs hw
              all_goals unfold Does
              · go_simp
                exact Goes.on (fun _ => rfl) fun L' k => hw.same (by decide) (by decide) k
              · go_simp
                exact Goes.on (fun _ => rfl) fun L' k => hw.same (by decide) (by decide) k
              · go_simp
                exact Goes.on (fun _ => rfl) fun L' k => hw.same (by decide) (by decide) k
              · try simp only [Nat.zero_add, Nat.reduceAdd] at h0
                go_simp
                refine ⟨(w5.heap.size, γ.2), vsB_a h0, fun _ => rfl, fun L' k => ?_⟩
                have ka : Keeps w5 (w5.alloc (.cells #[.int .u8 0] 5)) := (Keeps.refl w5).alloc _
                exact ⟨hw.kp.trans ka, fun _ => by rw [HCL.out]; exact Blk.lit w5 [x1] _, fun z => (hw.two (((k 11).1 z).elim id fun q => absurd q (by decide))).keeps ka⟩
              · have hcv := (hw.one (hd 3 (by kernel_rfl))).whole 1 (n := 1) rfl
                rw [HX1.out] at hcv
                go_simp
                exact Goes.on (fun _ => rfl) fun L' k => hw.same (by decide) (by decide) k
              · go_simp
                exact Goes.on (fun _ => rfl) fun L' k => hw.same (by decide) (by decide) k
              · go_simp
                exact Goes.on (fun _ => rfl) fun L' k => hw.same (by decide) (by decide) k
              · go_simp
                exact Goes.on (fun _ => rfl) fun L' k => hw.same (by decide) (by decide) k
              · go_simp
                exact Goes.on (fun _ => rfl) fun L' k => hw.same (by decide) (by decide) k
              · go_simp
                refine (HFI.out w5).mono ?_
                rintro e w6 ⟨rfl, hk6⟩
                exact ⟨_, rfl, Goes.on (fun _ => rfl) fun L' k => hw.on (by decide) (by decide) k hk6⟩
              · go_simp
                exact Goes.on (fun _ => rfl) fun L' k => hw.same (by decide) (by decide) k
              · try simp only [Nat.zero_add, Nat.reduceAdd] at h0
                go_simp
                refine ⟨(γ.1, w5.heap.size), vsB_b h0, fun _ => rfl, fun L' k => ?_⟩
                have ka : Keeps w5 (w5.alloc (.cells #[.int .i64 0, .bool true, .int .i64 0, .bool false, .string Y] 37)) := (Keeps.refl w5).alloc _
                exact ⟨hw.kp.trans ka, fun z => (hw.one (((k 3).1 z).elim id fun q => absurd q (by decide))).below ka, fun _ => IsE.lit (T := pkqT) w5 [⟨0, true, 0, false, Y⟩] #[.int .i64 0, .bool true, .int .i64 0, .bool false, .string Y] _ rfl rfl⟩
            case hend4 =>
            intro γ L8 w8 hL hw
            have HTW := Lib.hid (hw.two (hL 11 (by decide)))
            have HO8 := Lib.hid (HOW.out.keeps hw.kp)
            have HK8 := Lib.hid (HKW.out.trans hw.kp)
            simp only [List.drop_succ_cons, List.drop_zero]
            clear hw hL
            go_wp2_with (at_builtin; refine wp_catE (T := pkqT) rfl _ _ rfl HO8.out rfl rfl HTW.out (by simp) (by rw [List.length_map]; have := HDB.out; show _ + 1 ≤ _; omega) (Below.size HK8.out) ?_; intro v9 w9 o9 g9 _; have HO9 := Lib.hid o9; have HK9 := Lib.hid (HK8.out.grown g9 HO8.out.block); have HI9 := Lib.hid (HI.out.keeps (HK8.out.grown g9 HO8.out.block)); clear o9 g9)
            have HRP := Lib.hid (show 0 < R.length by omega)
            go_loop [6, 7, 10] (fun r2 n2 m => eaRel L (eat ns (183)) r2 n2 m) (fun _ n2 _ => len - (intOf n2).toNat)
            case atStart => exact ⟨0, nx, 183, rfl, rfl, by first | rfl | rw [HM0.out], by rw [HN.out]; exact hnx, by omega, by omega, by rw [HNS.out]; exact eatR.start ns _⟩
            case round =>
              obtain ⟨r2, n2, m, rfl, rfl, rfl, hn2, hm, hr2, hea⟩ := hrel
              rw [HN.out] at hn2
              have HN2 := Lib.hid hn2
              by_cases hm0 : 0 < m
              · have hm0i : (0 : Int) < (m : Int) := by omega
                by_cases hlt : n2 < len
                · have hlti : (n2 : Int) < (len : Int) := by omega
                  have hkL : n2 < L.length := by rw [HN.out]; exact hlt
                  obtain ⟨b, off, rfl, hcell⟩ := HI9.out.get hkL
                  rw [List.getD_eq_getElem?_getD, List.getElem?_eq_getElem hkL] at hcell
                  simp only [Option.getD_some] at hcell
                  have hl96 := HS.out L[n2] (List.getElem_mem hkL)
                  rw [drop_lens hkL] at hea
                  obtain ⟨n3, hn3⟩ : ∃ n3, L[n2].length = n3 := ⟨_, rfl⟩
                  rw [hn3] at hea hl96
                  obtain ⟨Z, hZ⟩ : ∃ Z, st L[n2] = Z := ⟨_, rfl⟩
                  have hZz : Z.size = n3 := by rw [← hZ, st_size]; exact hn3
                  rw [hZ] at hcell
                  have wr2 := wrapI (a := (n2 : Int) + 1) (by omega) (by omega)
                  have wr3 := wrapI (a := (m : Int) - (n3 : Int)) (by omega) (by omega)
                  have wr4 := wrapI (a := (n3 : Int) - (m : Int)) (by omega) (by omega)
                  clear hn3 hZ
                  by_cases hgt : m < n3
                  · have hgti : (m : Int) < (n3 : Int) := by omega
                    have HEA := Lib.hid (hea.less hm0 hgt)
                    have hc3 : (n3 : Int) - (m : Int) = ((n3 - m : Nat) : Int) := by omega
                    have HC3 := Lib.hid hc3
                    clear hea hc3
                    go_wp2
                    go_round
                    case rel => exact ⟨n3 - m, n2 + 1, 0, by rw [HC3.out], by go_num, rfl, by rw [HN.out]; omega, by omega, by omega, HEA.out⟩
                    case measure => simp [intOf]; omega
                  · have hgti : ¬ (m : Int) < (n3 : Int) := by omega
                    obtain ⟨rfl, hea2⟩ := hea.more hm0 hgt
                    have HEA := Lib.hid hea2
                    have hc3 : (m : Int) - (n3 : Int) = ((m - n3 : Nat) : Int) := by omega
                    have HC3 := Lib.hid hc3
                    clear hea hea2 hc3
                    go_wp2
                    go_round
                    case rel => exact ⟨0, n2 + 1, m - n3, rfl, by go_num, by rw [HC3.out], by rw [HN.out]; omega, by omega, by omega, HEA.out⟩
                    case measure => simp [intOf]; omega
                · have hlti : ¬ (n2 : Int) < (len : Int) := by omega
                  have HQE := Lib.hid (hea.ends (.inr (by rw [List.map_eq_nil_iff, List.drop_eq_nil_iff, HN.out]; omega)))
                  go_wp2
                  go_roundw
                  case rel => exact ⟨R.drop 183, r2, n2, done ++ [(true, f184 (x1 :: R.take 183))], by first | rw [HU.out] | (rw [List.drop_length]; rfl) | (rw [List.drop_of_length_le (by omega)]; rfl), rfl, rfl, by rw [HN.out]; exact HN2.out, by have := HQ.out; rw [HQE.out] at this; rw [List.length_drop]; rwa [show R.length - 183 = R.length - 183 by omega], by rw [HBO.out, HB.out, HQE.out, List.append_assoc]; rfl, by rw [List.map_append, List.map_cons, List.map_nil]; show OwnE pkqT _ _ _ (done.map mkP ++ [⟨0, true, 0, false, st (f184 (x1 :: R.take 183))⟩]); rw [HY.out]; exact HO9.out, HK9.out, by rw [List.length_append, List.length_drop, List.length_singleton]; have := HDN.out; have := HRP.out; omega⟩
                  case measure => simp only [strN]; rw [HUZ.out, HSZ.out]; have := HRP.out; omega
              · obtain rfl : m = 0 := by omega
                have HQE := Lib.hid (hea.ends (.inl rfl))
                go_wp2
                go_roundw
                case rel => exact ⟨R.drop 183, r2, n2, done ++ [(true, f184 (x1 :: R.take 183))], by first | rw [HU.out] | (rw [List.drop_length]; rfl) | (rw [List.drop_of_length_le (by omega)]; rfl), rfl, rfl, by rw [HN.out]; exact HN2.out, by have := HQ.out; rw [HQE.out] at this; rw [List.length_drop]; rwa [show R.length - 183 = R.length - 183 by omega], by rw [HBO.out, HB.out, HQE.out, List.append_assoc]; rfl, by rw [List.map_append, List.map_cons, List.map_nil]; show OwnE pkqT _ _ _ (done.map mkP ++ [⟨0, true, 0, false, st (f184 (x1 :: R.take 183))⟩]); rw [HY.out]; exact HO9.out, HK9.out, by rw [List.length_append, List.length_drop, List.length_singleton]; have := HDN.out; have := HRP.out; omega⟩
                case measure => simp only [strN]; rw [HUZ.out, HSZ.out]; have := HRP.out; omega
          · have hrp : 0 < r := by omega
            have HQ := Lib.hid (show Fits (R.length - 183) (eat ns (183 - r)).1 (eat ns (183 - r)).2 by have := hft; rwa [show min 183 R.length = 183 by omega] at this)
            have HB := Lib.hid (show bd R r ns = (true, f184 (UInt8.ofNat r :: R.take 183)) :: bd (R.drop 183) (eat ns (183 - r)).1 (eat ns (183 - r)).2 by rw [hB, show min 183 R.length = 183 by omega])
            obtain ⟨x1, hx1⟩ : ∃ x, UInt8.ofNat r = x := ⟨_, rfl⟩
            rw [hx1] at HB
            have HCL := Lib.hid (show #[.int .u8 (r : Int)] = ([x1].map B).toArray by rw [← hx1]; show _ = #[B (UInt8.ofNat r)]; unfold B; rw [toNat_of (by omega)])
            obtain ⟨X1, hX1⟩ : ∃ X, st [x1] = X := ⟨_, rfl⟩
            have HX1 := Lib.hid hX1
            have hX1z : X1.size = 1 := by rw [← hX1]; rfl
            have x2 := HDR.out 183
            have x3 := HTK.out 183
            obtain ⟨T, hT⟩ : ∃ T, st (R.take 183) = T := ⟨_, rfl⟩
            have hTz : T.size ≤ 183 := by rw [← hT, st_size, List.length_take]; omega
            have hls : ls (X1 ++ T) = x1 :: R.take 183 := by rw [ls_append, ← hX1, ← hT, ls_st, ls_st]; rfl
            have HFI := Lib.hid (fun W => rprfilled_any W (X1 ++ T) W (by rw [ByteArray.size_append]; omega) (Keeps.refl W))
            rw [hls] at HFI
            obtain ⟨X, hX⟩ : ∃ X, X1 ++ T = X := ⟨_, rfl⟩
            rw [hX] at HFI
            obtain ⟨Y, hY⟩ : ∃ Y, st (f184 (x1 :: R.take 183)) = Y := ⟨_, rfl⟩
            rw [hY] at HFI
            have HY := Lib.hid hY
            rw [hT] at x3
            obtain ⟨U, hU⟩ : ∃ U, st (R.drop 183) = U := ⟨_, rfl⟩
            have HU := Lib.hid (show U = st (R.drop 183) by rw [← hU])
            have HUZ := Lib.hid (show U.size = R.length - 183 by rw [← hU, st_size]; rw [List.length_drop])
            rw [hU] at x2
            obtain ⟨S, hS⟩ : ∃ S, st R = S := ⟨_, rfl⟩
            rw [hS] at x2 x3 hzp hzI hSz
            rw [hS]
            have HSZ := Lib.hid hSz
            have f1 : ¬ 9223372036854775807 < 1 + T.size := by omega
            have hmi : min (183 : Int) (S.size : Int) = 183 := by omega
            have hs1 : (183 : Int) < (S.size : Int) := by omega
            have hs2 : ¬ (S.size : Int) ≤ 183 := by omega
            have hs3 : (183 : Int) ≤ (S.size : Int) := by omega
            have hm0 : 183 - (r : Int) = (((183 - r) : Nat) : Int) := by omega
            have hr0i : (0 : Int) < (r : Int) := by omega
            have wr8 : IntKind.u8.wrap (r : Int) = (r : Int) := by simp [IntKind.wrap, IntKind.bits, IntKind.signed]; omega
            have HM0 := Lib.hid (hm0)
            clear hm0
            clear hx1 hX1 hT hls hY hU hS hB hft HDR HTK HFI0 hsb hR0 hSz
            go_wp2
            refine wp_draw_ht (Γ := Nat × Nat) 12 (by kernel_rfl) (vsB u5 (r : Int) 183 X1 S T X Y ⟨0, true, 0, false, Y⟩) (fun γ => BR wr [x1] ⟨0, true, 0, false, Y⟩ γ) rfl (by kernel_rfl) (by kernel_rfl) ?fin5 ?hfin5 (0, 0) ⟨(Keeps.refl wr).eqv (Eqv.drew wr), (fun x => by cases x), (fun x => by cases x)⟩ ?each5 ?hend5
            case hfin5 => intro γ; simp [vsB, seqA, dstOf, Act.put]; rfl
            case each5 =>
              refine ⟨?_, ?_, ?_, ?_, ?_, ?_, ?_, ?_, ?_, ?_, ?_, ?_, trivial⟩
              all_goals intro γ L w5 h0 hd hs hw
              all_goals unfold Does
              · go_simp
                exact Goes.on (fun _ => rfl) fun L' k => hw.same (by decide) (by decide) k
              · go_simp
                exact Goes.on (fun _ => rfl) fun L' k => hw.same (by decide) (by decide) k
              · go_simp
                exact Goes.on (fun _ => rfl) fun L' k => hw.same (by decide) (by decide) k
              · try simp only [Nat.zero_add, Nat.reduceAdd] at h0
                go_simp
                refine ⟨(w5.heap.size, γ.2), vsB_a h0, fun _ => rfl, fun L' k => ?_⟩
                have ka : Keeps w5 (w5.alloc (.cells #[.int .u8 (r : Int)] 5)) := (Keeps.refl w5).alloc _
                exact ⟨hw.kp.trans ka, fun _ => by rw [HCL.out]; exact Blk.lit w5 [x1] _, fun z => (hw.two (((k 11).1 z).elim id fun q => absurd q (by decide))).keeps ka⟩
              · have hcv := (hw.one (hd 3 (by kernel_rfl))).whole 1 (n := 1) rfl
                rw [HX1.out] at hcv
                go_simp
                exact Goes.on (fun _ => rfl) fun L' k => hw.same (by decide) (by decide) k
              · go_simp
                exact Goes.on (fun _ => rfl) fun L' k => hw.same (by decide) (by decide) k
              · go_simp
                exact Goes.on (fun _ => rfl) fun L' k => hw.same (by decide) (by decide) k
              · go_simp
                exact Goes.on (fun _ => rfl) fun L' k => hw.same (by decide) (by decide) k
              · go_simp
                exact Goes.on (fun _ => rfl) fun L' k => hw.same (by decide) (by decide) k
              · go_simp
                refine (HFI.out w5).mono ?_
                rintro e w6 ⟨rfl, hk6⟩
                exact ⟨_, rfl, Goes.on (fun _ => rfl) fun L' k => hw.on (by decide) (by decide) k hk6⟩
              · go_simp
                exact Goes.on (fun _ => rfl) fun L' k => hw.same (by decide) (by decide) k
              · try simp only [Nat.zero_add, Nat.reduceAdd] at h0
                go_simp
                refine ⟨(γ.1, w5.heap.size), vsB_b h0, fun _ => rfl, fun L' k => ?_⟩
                have ka : Keeps w5 (w5.alloc (.cells #[.int .i64 0, .bool true, .int .i64 0, .bool false, .string Y] 37)) := (Keeps.refl w5).alloc _
                exact ⟨hw.kp.trans ka, fun z => (hw.one (((k 3).1 z).elim id fun q => absurd q (by decide))).below ka, fun _ => IsE.lit (T := pkqT) w5 [⟨0, true, 0, false, Y⟩] #[.int .i64 0, .bool true, .int .i64 0, .bool false, .string Y] _ rfl rfl⟩
            case hend5 =>
            intro γ L8 w8 hL hw
            have HTW := Lib.hid (hw.two (hL 11 (by decide)))
            have HO8 := Lib.hid (HOW.out.keeps hw.kp)
            have HK8 := Lib.hid (HKW.out.trans hw.kp)
            simp only [List.drop_succ_cons, List.drop_zero]
            clear hw hL
            go_wp2_with (at_builtin; refine wp_catE (T := pkqT) rfl _ _ rfl HO8.out rfl rfl HTW.out (by simp) (by rw [List.length_map]; have := HDB.out; show _ + 1 ≤ _; omega) (Below.size HK8.out) ?_; intro v9 w9 o9 g9 _; have HO9 := Lib.hid o9; have HK9 := Lib.hid (HK8.out.grown g9 HO8.out.block); have HI9 := Lib.hid (HI.out.keeps (HK8.out.grown g9 HO8.out.block)); clear o9 g9)
            have HRP := Lib.hid (show 0 < R.length by omega)
            go_loop [6, 7, 10] (fun r2 n2 m => eaRel L (eat ns (183 - r)) r2 n2 m) (fun _ n2 _ => len - (intOf n2).toNat)
            case atStart => exact ⟨0, nx, 183 - r, rfl, rfl, by first | rfl | rw [HM0.out], by rw [HN.out]; exact hnx, by omega, by omega, by rw [HNS.out]; exact eatR.start ns _⟩
            case round =>
              obtain ⟨r2, n2, m, rfl, rfl, rfl, hn2, hm, hr2, hea⟩ := hrel
              rw [HN.out] at hn2
              have HN2 := Lib.hid hn2
              by_cases hm0 : 0 < m
              · have hm0i : (0 : Int) < (m : Int) := by omega
                by_cases hlt : n2 < len
                · have hlti : (n2 : Int) < (len : Int) := by omega
                  have hkL : n2 < L.length := by rw [HN.out]; exact hlt
                  obtain ⟨b, off, rfl, hcell⟩ := HI9.out.get hkL
                  rw [List.getD_eq_getElem?_getD, List.getElem?_eq_getElem hkL] at hcell
                  simp only [Option.getD_some] at hcell
                  have hl96 := HS.out L[n2] (List.getElem_mem hkL)
                  rw [drop_lens hkL] at hea
                  obtain ⟨n3, hn3⟩ : ∃ n3, L[n2].length = n3 := ⟨_, rfl⟩
                  rw [hn3] at hea hl96
                  obtain ⟨Z, hZ⟩ : ∃ Z, st L[n2] = Z := ⟨_, rfl⟩
                  have hZz : Z.size = n3 := by rw [← hZ, st_size]; exact hn3
                  rw [hZ] at hcell
                  have wr2 := wrapI (a := (n2 : Int) + 1) (by omega) (by omega)
                  have wr3 := wrapI (a := (m : Int) - (n3 : Int)) (by omega) (by omega)
                  have wr4 := wrapI (a := (n3 : Int) - (m : Int)) (by omega) (by omega)
                  clear hn3 hZ
                  by_cases hgt : m < n3
                  · have hgti : (m : Int) < (n3 : Int) := by omega
                    have HEA := Lib.hid (hea.less hm0 hgt)
                    have hc3 : (n3 : Int) - (m : Int) = ((n3 - m : Nat) : Int) := by omega
                    have HC3 := Lib.hid hc3
                    clear hea hc3
                    go_wp2
                    go_round
                    case rel => exact ⟨n3 - m, n2 + 1, 0, by rw [HC3.out], by go_num, rfl, by rw [HN.out]; omega, by omega, by omega, HEA.out⟩
                    case measure => simp [intOf]; omega
                  · have hgti : ¬ (m : Int) < (n3 : Int) := by omega
                    obtain ⟨rfl, hea2⟩ := hea.more hm0 hgt
                    have HEA := Lib.hid hea2
                    have hc3 : (m : Int) - (n3 : Int) = ((m - n3 : Nat) : Int) := by omega
                    have HC3 := Lib.hid hc3
                    clear hea hea2 hc3
                    go_wp2
                    go_round
                    case rel => exact ⟨0, n2 + 1, m - n3, rfl, by go_num, by rw [HC3.out], by rw [HN.out]; omega, by omega, by omega, HEA.out⟩
                    case measure => simp [intOf]; omega
                · have hlti : ¬ (n2 : Int) < (len : Int) := by omega
                  have HQE := Lib.hid (hea.ends (.inr (by rw [List.map_eq_nil_iff, List.drop_eq_nil_iff, HN.out]; omega)))
                  go_wp2
                  go_roundw
                  case rel => exact ⟨R.drop 183, r2, n2, done ++ [(true, f184 (x1 :: R.take 183))], by first | rw [HU.out] | (rw [List.drop_length]; rfl) | (rw [List.drop_of_length_le (by omega)]; rfl), rfl, rfl, by rw [HN.out]; exact HN2.out, by have := HQ.out; rw [HQE.out] at this; rw [List.length_drop]; rwa [show R.length - 183 = R.length - 183 by omega], by rw [HBO.out, HB.out, HQE.out, List.append_assoc]; rfl, by rw [List.map_append, List.map_cons, List.map_nil]; show OwnE pkqT _ _ _ (done.map mkP ++ [⟨0, true, 0, false, st (f184 (x1 :: R.take 183))⟩]); rw [HY.out]; exact HO9.out, HK9.out, by rw [List.length_append, List.length_drop, List.length_singleton]; have := HDN.out; have := HRP.out; omega⟩
                  case measure => simp only [strN]; rw [HUZ.out, HSZ.out]; have := HRP.out; omega
              · obtain rfl : m = 0 := by omega
                have HQE := Lib.hid (hea.ends (.inl rfl))
                go_wp2
                go_roundw
                case rel => exact ⟨R.drop 183, r2, n2, done ++ [(true, f184 (x1 :: R.take 183))], by first | rw [HU.out] | (rw [List.drop_length]; rfl) | (rw [List.drop_of_length_le (by omega)]; rfl), rfl, rfl, by rw [HN.out]; exact HN2.out, by have := HQ.out; rw [HQE.out] at this; rw [List.length_drop]; rwa [show R.length - 183 = R.length - 183 by omega], by rw [HBO.out, HB.out, HQE.out, List.append_assoc]; rfl, by rw [List.map_append, List.map_cons, List.map_nil]; show OwnE pkqT _ _ _ (done.map mkP ++ [⟨0, true, 0, false, st (f184 (x1 :: R.take 183))⟩]); rw [HY.out]; exact HO9.out, HK9.out, by rw [List.length_append, List.length_drop, List.length_singleton]; have := HDN.out; have := HRP.out; omega⟩
                case measure => simp only [strN]; rw [HUZ.out, HSZ.out]; have := HRP.out; omega
-- END BODIES
end Go.Proofs.YtifbomppgflkfaaDoor
