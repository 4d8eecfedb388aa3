/-
  For any string and any calls BitsReads returns true: what is read of bytes, call by call, where the reader stands, and what is wrong; nothing that was there is changed. No condition.
-/
import Derived.Test.YtfkadmcndjohbaaRows
import Derived.Test.YtfkadmcndjohbaaBitsRow
namespace Go.Proofs.Ytfkadmcndjohbaa.bitsReads
open Go.ChangeShapes Go.WideShapes Go.ChangeAt Go.RowKit Gf Bit
set_option maxRecDepth 100000
open Go.ChangeMaps (open_string shut_string)
set_option linter.unusedVariables false
/-- All bits of the text, in a row that is not the reader's. -/
structure Row (w0 : World) (r : Nat) (va : Option Addr) (Z : Nat) (L : List Bool) (W : World) : Prop where
  is : IsBl W va Z L
  ap : ∀ x, va = some x → x.block ≠ r
theorem Row.only {w0 W W' : World} {r Z : Nat} {va : Option Addr} {L : List Bool} (h : Row w0 r va Z L W) (k : Only r W W') : Row w0 r va Z L W' :=
  ⟨⟨h.is.1, fun h0 => by
    obtain ⟨b, off, e, hb, hc⟩ := h.is.2 h0
    have hn : b ≠ r := h.ap _ e
    exact ⟨b, off, e, Nat.lt_of_lt_of_le hb k.size, fun i hi => (k.cell (p := ⟨b, off + i, none⟩) hb hn).trans (hc i hi)⟩⟩, h.ap⟩
theorem Row.keeps {w0 W W' : World} {r Z : Nat} {va : Option Addr} {L : List Bool} (h : Row w0 r va Z L W) (k : Keeps W W') : Row w0 r va Z L W' := ⟨h.is.kept k, h.ap⟩
theorem Row.eqv {w0 W W' : World} {r Z : Nat} {va : Option Addr} {L : List Bool} (h : Row w0 r va Z L W) (q : Eqv W W') : Row w0 r va Z L W' := h.keeps ((Keeps.refl W).eqv q)
theorem own_addr {w : World} {base : Nat} {a : Option Addr} {n c : Nat} {L : List Bool} (h : OwnBl w base (.slice a n c) L) : ∀ x, a = some x → base ≤ x.block := by
  intro x e
  subst e
  obtain ⟨_, h⟩ := h
  rcases h with ⟨e, _⟩ | ⟨g, cap, cur, e, hb, _⟩
  · cases e
  · cases e; exact hb
/-- A part of a row. -/
theorem subBl {W : World} {va : Option Addr} {Z : Nat} {L : List Bool} (h : IsBl W va Z L) (p N : Nat) (hp : p + N ≤ L.length) {a' : Option Addr} (ha : ∀ b off, va = some ⟨b, off, none⟩ → 0 < N → a' = some ⟨b, off + p, none⟩) : IsBl W a' N ((L.drop p).take N) := by
  have hl : ((L.drop p).take N).length = N := by rw [List.length_take, List.length_drop]; omega
  refine ⟨hl.symm, fun h0 => ?_⟩
  rw [hl] at h0
  obtain ⟨b, off, e, hb, hc⟩ := h.2 (by omega)
  refine ⟨b, off + p, ha b off e h0, hb, fun i hi => ?_⟩
  rw [hl] at hi
  rw [bt_take hi, bt_drop, Nat.add_assoc]
  exact hc (p + i) (by omega)
def brRel (w0 : World) (r : Nat) (s : ByteArray) (len : Nat) (va : Option Addr) (Z : Nat) (at_ e i : Value) (wr : World) : Prop := ∃ (k p : Nat) (E : Int), k ≤ len ∧ i = .int .i64 (k : Int) ∧ at_ = .int .i64 (p : Int) ∧ e = .int .i64 E ∧ p ≤ 8 * s.size ∧ InAt r E s p wr ∧ Row w0 r va Z (ob (ls s)) wr ∧ Keeps w0 wr
set_option maxHeartbeats 16000000 in
theorem core (s : ByteArray) (a : Option Addr) (len cap : Nat) (l : List OpD) (w : World) (hs : s.size ≤ 100) (h : IsO w a len l) (hm : len ≤ maxLen) (hf : fewB l = true) :
    Calls Try.prog 4 #[.string s, .slice a len cap] w fun e w' => e = .returned (.bool true) ∧ Below w.heap.size w w' := by
  obtain ⟨h60, hs60⟩ := few_yes hf
  have HF := Lib.hid (few_any (cap := cap) w h hm)
  rw [hf] at HF
  obtain ⟨N, hN⟩ : ∃ N, l.length = N := ⟨_, rfl⟩
  have hll : len = N := by rw [← hN]; exact h.1
  subst hll
  have hlen60 : len ≤ 60 := by omega
  have HN := Lib.hid hN
  have HH := Lib.hid h
  have hs0 : ¬ ((100 : Int) < (s.size : Int)) := by omega
  have hs1 : s.size ≤ 1000000 := by omega
  have HLO := Lib.hid (show (ob (ls s)).length = 8 * s.size by rw [ob_length, ← ls_size])
  clear h hN hs60 h60 hf hm
  go_enter Try.func4, Try.ntmps4
  go_wp2_with (first | (go_at_call 9; refine HF.out.mono ?_; rintro _ _ ⟨rfl, rfl⟩) | (go_at_call 16; refine (read_any s w).mono ?_; rintro _ w1 ⟨rfl, hR1, k1⟩; have HR1 := Lib.hid hR1; have HK1 := Lib.hid k1; clear hR1 k1) | (go_at_call 17; refine (rof_any s w1 hs1).mono ?_; rintro _ w2 ⟨v2, rfl, ho2, k2⟩; have HR2 := Lib.hid (HR1.out.keeps k2); have HK2 := Lib.hid (HK1.out.more k2); have HO2 := Lib.hid ho2; clear ho2 k2))
  obtain ⟨va, vc, rfl, hIs, hvc⟩ := HO2.out.is
  have HAD := Lib.hid (own_addr HO2.out)
  obtain ⟨Z, hZ⟩ : ∃ Z, (ob (ls s)).length = Z := ⟨_, rfl⟩
  have hZ8 : Z = 8 * s.size := by rw [← hZ]; exact HLO.out
  rw [hZ] at hIs hvc
  rw [hZ]
  obtain ⟨r, hr⟩ : ∃ r, w.heap.size = r := ⟨_, rfl⟩
  have HRW := Lib.hid (show Row w r va Z (ob (ls s)) w2 from ⟨hIs, fun x e => by have := HAD.out x e; have := HR1.out.old; omega⟩)
  rw [hr] at HR2
  rw [hr]
  have HRR := Lib.hid hr
  have HZ := Lib.hid hZ
  clear hIs hZ hr HO2 HR1
  go_loopw [7, 8, 9] (fun at_ e i wr => brRel w r s len va Z at_ e i wr) (fun _ _ i _ => len - (intOf i).toNat)
  case atStart => exact ⟨0, 0, 0, by omega, rfl, rfl, rfl, by omega, HR2.out, HRW.out, HK2.out⟩
  case round =>
    obtain ⟨k, p, E, hk, rfl, rfl, rfl, hp, hR, hW, hkp⟩ := hrel
    have HR6 := Lib.hid hR
    have HW6 := Lib.hid hW
    have HK6 := Lib.hid hkp
    clear hR hW hkp
    by_cases hlt : k < len
    · obtain ⟨rb, off, rfl, hrb, hc⟩ := HH.out.2.2 (by rw [HN.out]; omega)
      obtain ⟨o, ho⟩ : ∃ o, l[k]? = some o := ⟨l[k]'(by rw [HN.out]; exact hlt), List.getElem?_eq_getElem _⟩
      have hob := (HH.out.2.1 o (List.mem_of_getElem? ho)).2
      have q0 := (Below.cell HK6.out (p := ⟨rb, off + k * 4, none⟩) hrb).trans (hc k o ho 0 _ rfl)
      have q1 := (Below.cell HK6.out (p := ⟨rb, off + k * 4 + 1, none⟩) hrb).trans (hc k o ho 1 _ rfl)
      have q2 := (Below.cell HK6.out (p := ⟨rb, off + k * 4 + 2, none⟩) hrb).trans (hc k o ho 2 _ rfl)
      have q3 := (Below.cell HK6.out (p := ⟨rb, off + k * 4 + 3, none⟩) hrb).trans (hc k o ho 3 _ rfl)
      have hkI : (k : Int) < (len : Int) := by omega
      obtain ⟨t, x, n, so⟩ := o
      simp only at q0 q1 q2 q3 hob
      obtain ⟨g, hg⟩ : ∃ g, wr.heap.size = g := ⟨_, rfl⟩
      obtain ⟨wa, hwa⟩ : ∃ wa, wr.alloc (.cells #[.bool t, .int .u64 (un x), .int .i64 n, .string so] 37) = wa := ⟨_, rfl⟩
      have d0 : wa.cell? ⟨g, 0, none⟩ = some (.bool t) := by rw [← hwa, ← hg, World.cell?_alloc_new]; rfl
      have d2 : wa.cell? ⟨g, 2, none⟩ = some (.int .i64 n) := by rw [← hwa, ← hg, World.cell?_alloc_new]; rfl
      have hka : Keeps wr wa := by rw [← hwa]; exact (Keeps.refl wr).alloc _
      have HRA := Lib.hid (HR6.out.keeps hka)
      have HWA := Lib.hid (HW6.out.keeps hka)
      have HKA := Lib.hid (HK6.out.more hka)
      have hgr : g ≠ r := by have := HR6.out.old; omega
      have hgw : g < wa.heap.size := there_cell d0
      clear hc hka HR6 HW6
      have HRle := Lib.hid (show w.heap.size ≤ r by rw [HRR.out]; exact Nat.le_refl _)
      have eZ : (Z : Int) = 8 * (s.size : Int) := by omega
      have HZ8 := Lib.hid hZ8
      have hpI : (p : Int) ≤ 8 * (s.size : Int) := by omega
      clear hZ8
      by_cases hE : E = 0
      · subst hE
        cases t
        · by_cases hn0 : n < 0
          · have HC := Lib.hid (show ∀ W, Keeps wa W → Calls Try.prog 20 #[.pointer (some ⟨r, 0, none⟩), .int .i64 n] W fun e w' => e = .returned (.int .u64 0) ∧ InAt r 1 s p w' ∧ Only r W w' from fun W kW => get_arg (HRA.out.keeps kW) n (.inl hn0))
            have HP8 := Lib.hid hp
            go_wp2_with (first | (go_at_call 20; refine (HC.out wa (Keeps.refl wa)).mono ?_; rintro _ w8 ⟨rfl, hi, kk⟩; have HR8 := Lib.hid hi; have HI8 := Lib.hid (HWA.out.only kk); have HK8 := Lib.hid (kk.kept HKA.out HRle.out); clear hi kk) | (go_at_call 21; refine (rat_any HR8.out).mono ?_; rintro _ _ ⟨rfl, rfl⟩) | (go_at_call 22; refine (left_any HR8.out hs1 HP8.out).mono ?_; rintro _ w9 ⟨rfl, q9⟩; have HR9 := Lib.hid (HR8.out.eqv q9); have HI9 := Lib.hid (HI8.out.eqv q9); have HK9 := Lib.hid (HK8.out.eqv q9); clear q9) | (go_at_call 23; refine (rerr_any HR9.out).mono ?_; rintro _ _ ⟨rfl, rfl⟩))
            go_roundw
            case rel => exact ⟨k + 1, p, 1, by omega, by go_num, rfl, rfl, HP8.out, HR9.out, HI9.out, HK9.out⟩
            case measure => simp [intOf]; omega
          by_cases hn1 : 64 < n
          · have HC := Lib.hid (show ∀ W, Keeps wa W → Calls Try.prog 20 #[.pointer (some ⟨r, 0, none⟩), .int .i64 n] W fun e w' => e = .returned (.int .u64 0) ∧ InAt r 1 s p w' ∧ Only r W w' from fun W kW => get_arg (HRA.out.keeps kW) n (.inr hn1))
            have HP8 := Lib.hid hp
            go_wp2_with (first | (go_at_call 20; refine (HC.out wa (Keeps.refl wa)).mono ?_; rintro _ w8 ⟨rfl, hi, kk⟩; have HR8 := Lib.hid hi; have HI8 := Lib.hid (HWA.out.only kk); have HK8 := Lib.hid (kk.kept HKA.out HRle.out); clear hi kk) | (go_at_call 21; refine (rat_any HR8.out).mono ?_; rintro _ _ ⟨rfl, rfl⟩) | (go_at_call 22; refine (left_any HR8.out hs1 HP8.out).mono ?_; rintro _ w9 ⟨rfl, q9⟩; have HR9 := Lib.hid (HR8.out.eqv q9); have HI9 := Lib.hid (HI8.out.eqv q9); have HK9 := Lib.hid (HK8.out.eqv q9); clear q9) | (go_at_call 23; refine (rerr_any HR9.out).mono ?_; rintro _ _ ⟨rfl, rfl⟩))
            go_roundw
            case rel => exact ⟨k + 1, p, 1, by omega, by go_num, rfl, rfl, HP8.out, HR9.out, HI9.out, HK9.out⟩
            case measure => simp [intOf]; omega
          obtain ⟨Q, rfl⟩ : ∃ Q : Nat, n = (Q : Int) := ⟨n.toNat, by omega⟩
          by_cases hq : 8 * s.size < p + Q
          · have hqI : 8 * (s.size : Int) - (p : Int) < (Q : Int) := by omega
            have HC := Lib.hid (show ∀ W, Keeps wa W → Calls Try.prog 20 #[.pointer (some ⟨r, 0, none⟩), .int .i64 (Q : Int)] W fun e w' => e = .returned (.int .u64 0) ∧ InAt r 10 s p w' ∧ Only r W w' from fun W kW => get_short (HRA.out.keeps kW) Q (by omega) hs1 hp hq)
            have HP8 := Lib.hid hp
            go_wp2_with (first | (go_at_call 20; refine (HC.out wa (Keeps.refl wa)).mono ?_; rintro _ w8 ⟨rfl, hi, kk⟩; have HR8 := Lib.hid hi; have HI8 := Lib.hid (HWA.out.only kk); have HK8 := Lib.hid (kk.kept HKA.out HRle.out); clear hi kk) | (go_at_call 21; refine (rat_any HR8.out).mono ?_; rintro _ _ ⟨rfl, rfl⟩) | (go_at_call 22; refine (left_any HR8.out hs1 HP8.out).mono ?_; rintro _ w9 ⟨rfl, q9⟩; have HR9 := Lib.hid (HR8.out.eqv q9); have HI9 := Lib.hid (HI8.out.eqv q9); have HK9 := Lib.hid (HK8.out.eqv q9); clear q9) | (go_at_call 23; refine (rerr_any HR9.out).mono ?_; rintro _ _ ⟨rfl, rfl⟩))
            go_roundw
            case rel => exact ⟨k + 1, p, 10, by omega, by go_num, rfl, rfl, HP8.out, HR9.out, HI9.out, HK9.out⟩
            case measure => simp [intOf]; omega
          · have hqI : ¬ (8 * (s.size : Int) - (p : Int) < (Q : Int)) := by omega
            obtain ⟨p2, hp2⟩ : ∃ p2, p + Q = p2 := ⟨_, rfl⟩
            have e2 : (p : Int) + (Q : Int) = (p2 : Int) := by omega
            have h12 : (p : Int) ≤ (p2 : Int) := by omega
            have h2Z : p2 ≤ Z := by have := HZ8.out; omega
            have h2c : (p2 : Int) ≤ (vc : Int) := by omega
            have hsub : p2 - p = Q := by omega
            have HP8 := Lib.hid (show p2 ≤ 8 * s.size by omega)
            obtain ⟨V, hV⟩ : ∃ V, un (num (((ob (ls s)).drop p).take Q)) = V := ⟨_, rfl⟩
            have HNu := Lib.hid (show ∀ (A : Option Addr) (c : Nat), IsBl wa A (p2 - p) (((ob (ls s)).drop p).take (p2 - p)) → Calls Try.prog 18 #[.slice A (p2 - p) c] wa fun e w' => e = .returned (.int .u64 V) ∧ wa = w' from fun A c hA => by have hh := rnumber_any (cap := c) wa hA (by rw [List.length_take]; omega); rw [hsub, hV] at hh; rw [hsub]; exact hh)
            have HC := Lib.hid (show ∀ W, Keeps wa W → Calls Try.prog 20 #[.pointer (some ⟨r, 0, none⟩), .int .i64 (Q : Int)] W fun e w' => e = .returned (.int .u64 V) ∧ InAt r 0 s p2 w' ∧ Only r W w' from fun W kW => by have hh := get_ok (HRA.out.keeps kW) Q (by omega) hs1 (by omega); rw [hV, hp2] at hh; exact hh)
            have HSS := Lib.hid (show ∀ A, (∀ b off, va = some ⟨b, off, none⟩ → 0 < p2 - p → A = some ⟨b, off + p, none⟩) → IsBl wa A (p2 - p) (((ob (ls s)).drop p).take (p2 - p)) from fun A hA => subBl HWA.out.is p (p2 - p) (by rw [HZ.out]; omega) hA)
            clear hV hsub hp2 hq
            by_cases hvp : vc = p
            · have HSB := Lib.hid (HSS.out va fun b off _ h0 => absurd h0 (by omega))
              subst hvp
              go_wp2_with (first | (go_at_call 20; refine (HC.out wa (Keeps.refl wa)).mono ?_; rintro _ w8 ⟨rfl, hi, kk⟩; have HR8 := Lib.hid hi; have HI8 := Lib.hid (HWA.out.only kk); have HK8 := Lib.hid (kk.kept HKA.out HRle.out); clear hi kk) | (go_at_call 18; refine (HNu.out _ _ HSB.out).mono ?_; rintro _ _ ⟨rfl, rfl⟩) | (go_at_call 21; refine (rat_any HR8.out).mono ?_; rintro _ _ ⟨rfl, rfl⟩) | (go_at_call 22; refine (left_any HR8.out hs1 HP8.out).mono ?_; rintro _ w9 ⟨rfl, q9⟩; have HR9 := Lib.hid (HR8.out.eqv q9); have HI9 := Lib.hid (HI8.out.eqv q9); have HK9 := Lib.hid (HK8.out.eqv q9); clear q9) | (go_at_call 23; refine (rerr_any HR9.out).mono ?_; rintro _ _ ⟨rfl, rfl⟩))
              go_roundw
              case rel => exact ⟨k + 1, p2, 0, by omega, by go_num, rfl, rfl, HP8.out, HR9.out, HI9.out, HK9.out⟩
              case measure => simp [intOf]; omega
            · have HSB := Lib.hid (HSS.out (Option.map (fun x => x.add p) va) fun b off e _ => by rw [e]; exact congrArg some (Addr.add_mid _ _ _))
              have hvp2 : ¬ ((vc : Int) = (p : Int)) := by omega
              go_wp2_with (first | (go_at_call 20; refine (HC.out wa (Keeps.refl wa)).mono ?_; rintro _ w8 ⟨rfl, hi, kk⟩; have HR8 := Lib.hid hi; have HI8 := Lib.hid (HWA.out.only kk); have HK8 := Lib.hid (kk.kept HKA.out HRle.out); clear hi kk) | (go_at_call 18; refine (HNu.out _ _ HSB.out).mono ?_; rintro _ _ ⟨rfl, rfl⟩) | (go_at_call 21; refine (rat_any HR8.out).mono ?_; rintro _ _ ⟨rfl, rfl⟩) | (go_at_call 22; refine (left_any HR8.out hs1 HP8.out).mono ?_; rintro _ w9 ⟨rfl, q9⟩; have HR9 := Lib.hid (HR8.out.eqv q9); have HI9 := Lib.hid (HI8.out.eqv q9); have HK9 := Lib.hid (HK8.out.eqv q9); clear q9) | (go_at_call 23; refine (rerr_any HR9.out).mono ?_; rintro _ _ ⟨rfl, rfl⟩))
              go_roundw
              case rel => exact ⟨k + 1, p2, 0, by omega, by go_num, rfl, rfl, HP8.out, HR9.out, HI9.out, HK9.out⟩
              case measure => simp [intOf]; omega
        · by_cases hn0 : n < 0
          · have hse : ((st []).toList == []) = true := by rw [st_toList]; rfl
            have HC := Lib.hid (show ∀ W, Keeps wa W → Calls Try.prog 19 #[.pointer (some ⟨r, 0, none⟩), .int .i64 n] W fun e w' => e = .returned (.string (st [])) ∧ InAt r 1 s p w' ∧ Only r W w' from fun W kW => text_arg (HRA.out.keeps kW) n hn0)
            have HP8 := Lib.hid hp
            go_wp2_with (first | (go_at_call 19; refine (HC.out wa (Keeps.refl wa)).mono ?_; rintro _ w8 ⟨rfl, hi, kk⟩; have HR8 := Lib.hid hi; have HI8 := Lib.hid (HWA.out.only kk); have HK8 := Lib.hid (kk.kept HKA.out HRle.out); clear hi kk) | (go_at_call 21; refine (rat_any HR8.out).mono ?_; rintro _ _ ⟨rfl, rfl⟩) | (go_at_call 22; refine (left_any HR8.out hs1 HP8.out).mono ?_; rintro _ w9 ⟨rfl, q9⟩; have HR9 := Lib.hid (HR8.out.eqv q9); have HI9 := Lib.hid (HI8.out.eqv q9); have HK9 := Lib.hid (HK8.out.eqv q9); clear q9) | (go_at_call 23; refine (rerr_any HR9.out).mono ?_; rintro _ _ ⟨rfl, rfl⟩))
            go_roundw
            case rel => exact ⟨k + 1, p, 1, by omega, by go_num, rfl, rfl, HP8.out, HR9.out, HI9.out, HK9.out⟩
            case measure => simp [intOf]; omega
          obtain ⟨Q, rfl⟩ : ∃ Q : Nat, n = (Q : Int) := ⟨n.toNat, by omega⟩
          by_cases hn1 : 1000 < (Q : Int)
          · have hqI : 8 * (s.size : Int) - (p : Int) < (Q : Int) := by omega
            have hse : ((st []).toList == []) = true := by rw [st_toList]; rfl
            have HC := Lib.hid (show ∀ W, Keeps wa W → Calls Try.prog 19 #[.pointer (some ⟨r, 0, none⟩), .int .i64 (Q : Int)] W fun e w' => e = .returned (.string (st [])) ∧ InAt r 10 s p w' ∧ Only r W w' from fun W kW => text_short (HRA.out.keeps kW) Q (by omega) hs1 hp (by omega))
            have HP8 := Lib.hid hp
            go_wp2_with (first | (go_at_call 19; refine (HC.out wa (Keeps.refl wa)).mono ?_; rintro _ w8 ⟨rfl, hi, kk⟩; have HR8 := Lib.hid hi; have HI8 := Lib.hid (HWA.out.only kk); have HK8 := Lib.hid (kk.kept HKA.out HRle.out); clear hi kk) | (go_at_call 21; refine (rat_any HR8.out).mono ?_; rintro _ _ ⟨rfl, rfl⟩) | (go_at_call 22; refine (left_any HR8.out hs1 HP8.out).mono ?_; rintro _ w9 ⟨rfl, q9⟩; have HR9 := Lib.hid (HR8.out.eqv q9); have HI9 := Lib.hid (HI8.out.eqv q9); have HK9 := Lib.hid (HK8.out.eqv q9); clear q9) | (go_at_call 23; refine (rerr_any HR9.out).mono ?_; rintro _ _ ⟨rfl, rfl⟩))
            go_roundw
            case rel => exact ⟨k + 1, p, 10, by omega, by go_num, rfl, rfl, HP8.out, HR9.out, HI9.out, HK9.out⟩
            case measure => simp [intOf]; omega
          by_cases hq : 8 * s.size < p + 8 * Q
          · have hqI : 8 * (s.size : Int) - (p : Int) < 8 * (Q : Int) := by omega
            have hse : ((st []).toList == []) = true := by rw [st_toList]; rfl
            have HC := Lib.hid (show ∀ W, Keeps wa W → Calls Try.prog 19 #[.pointer (some ⟨r, 0, none⟩), .int .i64 (Q : Int)] W fun e w' => e = .returned (.string (st [])) ∧ InAt r 10 s p w' ∧ Only r W w' from fun W kW => text_short (HRA.out.keeps kW) Q (by omega) hs1 hp (by omega))
            have HP8 := Lib.hid hp
            go_wp2_with (first | (go_at_call 19; refine (HC.out wa (Keeps.refl wa)).mono ?_; rintro _ w8 ⟨rfl, hi, kk⟩; have HR8 := Lib.hid hi; have HI8 := Lib.hid (HWA.out.only kk); have HK8 := Lib.hid (kk.kept HKA.out HRle.out); clear hi kk) | (go_at_call 21; refine (rat_any HR8.out).mono ?_; rintro _ _ ⟨rfl, rfl⟩) | (go_at_call 22; refine (left_any HR8.out hs1 HP8.out).mono ?_; rintro _ w9 ⟨rfl, q9⟩; have HR9 := Lib.hid (HR8.out.eqv q9); have HI9 := Lib.hid (HI8.out.eqv q9); have HK9 := Lib.hid (HK8.out.eqv q9); clear q9) | (go_at_call 23; refine (rerr_any HR9.out).mono ?_; rintro _ _ ⟨rfl, rfl⟩))
            go_roundw
            case rel => exact ⟨k + 1, p, 10, by omega, by go_num, rfl, rfl, HP8.out, HR9.out, HI9.out, HK9.out⟩
            case measure => simp [intOf]; omega
          · have hqI : ¬ (8 * (s.size : Int) - (p : Int) < 8 * (Q : Int)) := by omega
            obtain ⟨p2, hp2⟩ : ∃ p2, p + (8 * Q) = p2 := ⟨_, rfl⟩
            have e2 : (p : Int) + 8 * (Q : Int) = (p2 : Int) := by omega
            have h12 : (p : Int) ≤ (p2 : Int) := by omega
            have h2Z : p2 ≤ Z := by have := HZ8.out; omega
            have h2c : (p2 : Int) ≤ (vc : Int) := by omega
            have hsub : p2 - p = (8 * Q) := by omega
            have HP8 := Lib.hid (show p2 ≤ 8 * s.size by omega)
            obtain ⟨V, hV⟩ : ∃ V, st (pack (((ob (ls s)).drop p).take (8 * Q))) = V := ⟨_, rfl⟩
            have HNu := Lib.hid (show ∀ (A : Option Addr) (c : Nat), IsBl wa A (p2 - p) (((ob (ls s)).drop p).take (p2 - p)) → Calls Try.prog 15 #[.slice A (p2 - p) c] wa fun e w' => e = .returned (.string V) ∧ Keeps wa w' from fun A c hA => by have hh := rbytes_any (cap := c) wa hA (by rw [List.length_take]; omega); rw [hsub, hV] at hh; rw [hsub]; exact hh)
            have HC := Lib.hid (show ∀ W, Keeps wa W → Calls Try.prog 19 #[.pointer (some ⟨r, 0, none⟩), .int .i64 (Q : Int)] W fun e w' => e = .returned (.string V) ∧ InAt r 0 s p2 w' ∧ Only r W w' from fun W kW => by have hh := text_ok (HRA.out.keeps kW) Q hs1 (by omega); unfold nx at hh; rw [hV, hp2] at hh; exact hh)
            have HSS := Lib.hid (show ∀ A, (∀ b off, va = some ⟨b, off, none⟩ → 0 < p2 - p → A = some ⟨b, off + p, none⟩) → IsBl wa A (p2 - p) (((ob (ls s)).drop p).take (p2 - p)) from fun A hA => subBl HWA.out.is p (p2 - p) (by rw [HZ.out]; omega) hA)
            clear hV hsub hp2 hq
            by_cases hvp : vc = p
            · have HSB := Lib.hid (HSS.out va fun b off _ h0 => absurd h0 (by omega))
              subst hvp
              go_wp2_with (first | (go_at_call 19; refine (HC.out _ HKB.out).mono ?_; rintro _ w8 ⟨rfl, hi, kk⟩; have HR8 := Lib.hid hi; have HI8 := Lib.hid ((HWA.out.keeps HKB.out).only kk); have HK8 := Lib.hid (kk.kept (HKA.out.more HKB.out) HRle.out); clear hi kk) | (go_at_call 15; refine (HNu.out _ _ HSB.out).mono ?_; rintro _ w7 ⟨rfl, k7⟩; have d07 := (Below.cell k7 (p := ⟨g, 0, none⟩) hgw).trans d0; have d27 := (Below.cell k7 (p := ⟨g, 2, none⟩) hgw).trans d2; have HKB := Lib.hid k7; clear k7) | (go_at_call 21; refine (rat_any HR8.out).mono ?_; rintro _ _ ⟨rfl, rfl⟩) | (go_at_call 22; refine (left_any HR8.out hs1 HP8.out).mono ?_; rintro _ w9 ⟨rfl, q9⟩; have HR9 := Lib.hid (HR8.out.eqv q9); have HI9 := Lib.hid (HI8.out.eqv q9); have HK9 := Lib.hid (HK8.out.eqv q9); clear q9) | (go_at_call 23; refine (rerr_any HR9.out).mono ?_; rintro _ _ ⟨rfl, rfl⟩))
              go_roundw
              case rel => exact ⟨k + 1, p2, 0, by omega, by go_num, rfl, rfl, HP8.out, HR9.out, HI9.out, HK9.out⟩
              case measure => simp [intOf]; omega
            · have HSB := Lib.hid (HSS.out (Option.map (fun x => x.add p) va) fun b off e _ => by rw [e]; exact congrArg some (Addr.add_mid _ _ _))
              have hvp2 : ¬ ((vc : Int) = (p : Int)) := by omega
              go_wp2_with (first | (go_at_call 19; refine (HC.out _ HKB.out).mono ?_; rintro _ w8 ⟨rfl, hi, kk⟩; have HR8 := Lib.hid hi; have HI8 := Lib.hid ((HWA.out.keeps HKB.out).only kk); have HK8 := Lib.hid (kk.kept (HKA.out.more HKB.out) HRle.out); clear hi kk) | (go_at_call 15; refine (HNu.out _ _ HSB.out).mono ?_; rintro _ w7 ⟨rfl, k7⟩; have d07 := (Below.cell k7 (p := ⟨g, 0, none⟩) hgw).trans d0; have d27 := (Below.cell k7 (p := ⟨g, 2, none⟩) hgw).trans d2; have HKB := Lib.hid k7; clear k7) | (go_at_call 21; refine (rat_any HR8.out).mono ?_; rintro _ _ ⟨rfl, rfl⟩) | (go_at_call 22; refine (left_any HR8.out hs1 HP8.out).mono ?_; rintro _ w9 ⟨rfl, q9⟩; have HR9 := Lib.hid (HR8.out.eqv q9); have HI9 := Lib.hid (HI8.out.eqv q9); have HK9 := Lib.hid (HK8.out.eqv q9); clear q9) | (go_at_call 23; refine (rerr_any HR9.out).mono ?_; rintro _ _ ⟨rfl, rfl⟩))
              go_roundw
              case rel => exact ⟨k + 1, p2, 0, by omega, by go_num, rfl, rfl, HP8.out, HR9.out, HI9.out, HK9.out⟩
              case measure => simp [intOf]; omega
      · cases t
        · have HC := Lib.hid (show ∀ W, Keeps wa W → Calls Try.prog 20 #[.pointer (some ⟨r, 0, none⟩), .int .i64 n] W fun e w' => e = .returned (.int .u64 0) ∧ InAt r E s p w' ∧ Only r W w' from fun W kW => get_bad (HRA.out.keeps kW) n hE)
          have HP8 := Lib.hid hp
          go_wp2_with (first | (go_at_call 20; refine (HC.out wa (Keeps.refl wa)).mono ?_; rintro _ w8 ⟨rfl, hi, kk⟩; have HR8 := Lib.hid hi; have HI8 := Lib.hid (HWA.out.only kk); have HK8 := Lib.hid (kk.kept HKA.out HRle.out); clear hi kk) | (go_at_call 21; refine (rat_any HR8.out).mono ?_; rintro _ _ ⟨rfl, rfl⟩) | (go_at_call 22; refine (left_any HR8.out hs1 HP8.out).mono ?_; rintro _ w9 ⟨rfl, q9⟩; have HR9 := Lib.hid (HR8.out.eqv q9); have HI9 := Lib.hid (HI8.out.eqv q9); have HK9 := Lib.hid (HK8.out.eqv q9); clear q9) | (go_at_call 23; refine (rerr_any HR9.out).mono ?_; rintro _ _ ⟨rfl, rfl⟩))
          go_roundw
          case rel => exact ⟨k + 1, p, E, by omega, by go_num, rfl, rfl, HP8.out, HR9.out, HI9.out, HK9.out⟩
          case measure => simp [intOf]; omega
        · by_cases hn0 : n < 0
          · have hse : ((st []).toList == []) = true := by rw [st_toList]; rfl
            have HC := Lib.hid (show ∀ W, Keeps wa W → Calls Try.prog 19 #[.pointer (some ⟨r, 0, none⟩), .int .i64 n] W fun e w' => e = .returned (.string (st [])) ∧ InAt r E s p w' ∧ Only r W w' from fun W kW => text_bad (HRA.out.keeps kW) n hE)
            have HP8 := Lib.hid hp
            go_wp2_with (first | (go_at_call 19; refine (HC.out wa (Keeps.refl wa)).mono ?_; rintro _ w8 ⟨rfl, hi, kk⟩; have HR8 := Lib.hid hi; have HI8 := Lib.hid (HWA.out.only kk); have HK8 := Lib.hid (kk.kept HKA.out HRle.out); clear hi kk) | (go_at_call 21; refine (rat_any HR8.out).mono ?_; rintro _ _ ⟨rfl, rfl⟩) | (go_at_call 22; refine (left_any HR8.out hs1 HP8.out).mono ?_; rintro _ w9 ⟨rfl, q9⟩; have HR9 := Lib.hid (HR8.out.eqv q9); have HI9 := Lib.hid (HI8.out.eqv q9); have HK9 := Lib.hid (HK8.out.eqv q9); clear q9) | (go_at_call 23; refine (rerr_any HR9.out).mono ?_; rintro _ _ ⟨rfl, rfl⟩))
            go_roundw
            case rel => exact ⟨k + 1, p, E, by omega, by go_num, rfl, rfl, HP8.out, HR9.out, HI9.out, HK9.out⟩
            case measure => simp [intOf]; omega
          by_cases hn1 : 1000 < n
          · have hse : ((st []).toList == []) = true := by rw [st_toList]; rfl
            have HC := Lib.hid (show ∀ W, Keeps wa W → Calls Try.prog 19 #[.pointer (some ⟨r, 0, none⟩), .int .i64 n] W fun e w' => e = .returned (.string (st [])) ∧ InAt r E s p w' ∧ Only r W w' from fun W kW => text_bad (HRA.out.keeps kW) n hE)
            have HP8 := Lib.hid hp
            go_wp2_with (first | (go_at_call 19; refine (HC.out wa (Keeps.refl wa)).mono ?_; rintro _ w8 ⟨rfl, hi, kk⟩; have HR8 := Lib.hid hi; have HI8 := Lib.hid (HWA.out.only kk); have HK8 := Lib.hid (kk.kept HKA.out HRle.out); clear hi kk) | (go_at_call 21; refine (rat_any HR8.out).mono ?_; rintro _ _ ⟨rfl, rfl⟩) | (go_at_call 22; refine (left_any HR8.out hs1 HP8.out).mono ?_; rintro _ w9 ⟨rfl, q9⟩; have HR9 := Lib.hid (HR8.out.eqv q9); have HI9 := Lib.hid (HI8.out.eqv q9); have HK9 := Lib.hid (HK8.out.eqv q9); clear q9) | (go_at_call 23; refine (rerr_any HR9.out).mono ?_; rintro _ _ ⟨rfl, rfl⟩))
            go_roundw
            case rel => exact ⟨k + 1, p, E, by omega, by go_num, rfl, rfl, HP8.out, HR9.out, HI9.out, HK9.out⟩
            case measure => simp [intOf]; omega
          · have hse : ((st []).toList == []) = true := by rw [st_toList]; rfl
            have HC := Lib.hid (show ∀ W, Keeps wa W → Calls Try.prog 19 #[.pointer (some ⟨r, 0, none⟩), .int .i64 n] W fun e w' => e = .returned (.string (st [])) ∧ InAt r E s p w' ∧ Only r W w' from fun W kW => text_bad (HRA.out.keeps kW) n hE)
            have HP8 := Lib.hid hp
            go_wp2_with (first | (go_at_call 19; refine (HC.out wa (Keeps.refl wa)).mono ?_; rintro _ w8 ⟨rfl, hi, kk⟩; have HR8 := Lib.hid hi; have HI8 := Lib.hid (HWA.out.only kk); have HK8 := Lib.hid (kk.kept HKA.out HRle.out); clear hi kk) | (go_at_call 21; refine (rat_any HR8.out).mono ?_; rintro _ _ ⟨rfl, rfl⟩) | (go_at_call 22; refine (left_any HR8.out hs1 HP8.out).mono ?_; rintro _ w9 ⟨rfl, q9⟩; have HR9 := Lib.hid (HR8.out.eqv q9); have HI9 := Lib.hid (HI8.out.eqv q9); have HK9 := Lib.hid (HK8.out.eqv q9); clear q9) | (go_at_call 23; refine (rerr_any HR9.out).mono ?_; rintro _ _ ⟨rfl, rfl⟩))
            go_roundw
            case rel => exact ⟨k + 1, p, E, by omega, by go_num, rfl, rfl, HP8.out, HR9.out, HI9.out, HK9.out⟩
            case measure => simp [intOf]; omega
    · obtain rfl : len = k := by omega
      have hkI : ¬ ((len : Int) < (len : Int)) := by omega
      go_wp2_with (go_at_call 10; refine (awake6_any _).mono ?_; rintro _ w15 ⟨rfl, k15⟩)
      go_ret
      exact ⟨rfl, HK6.out.more k15⟩
theorem off (s : ByteArray) (a : Option Addr) (len cap : Nat) (l : List OpD) (w : World) (h : IsO w a len l) (hm : len ≤ maxLen) (hf : 100 < s.size ∨ fewB l = false) :
    Calls Try.prog 4 #[.string s, .slice a len cap] w fun e w' => e = .returned (.bool true) ∧ Below w.heap.size w w' := by
  by_cases hs : 100 < s.size
  · have hs0 : (100 : Int) < (s.size : Int) := by omega
    clear h hm hf
    go_enter Try.func4, Try.ntmps4
    go_wp2_with (go_at_call 10; refine (awake6_any _).mono ?_; rintro _ w15 ⟨rfl, k15⟩)
    go_ret
    exact ⟨rfl, k15⟩
  · have HF := Lib.hid (few_any (cap := cap) w h hm)
    rw [hf.resolve_left hs] at HF
    have hs0 : ¬ ((100 : Int) < (s.size : Int)) := by omega
    clear h hm hf hs
    go_enter Try.func4, Try.ntmps4
    go_wp2_with (first | (go_at_call 9; refine HF.out.mono ?_; rintro _ _ ⟨rfl, rfl⟩) | (go_at_call 10; refine (awake6_any _).mono ?_; rintro _ w15 ⟨rfl, k15⟩))
    go_ret
    exact ⟨rfl, k15⟩
theorem walk (s : ByteArray) (h1 : s.size ≤ maxLen) (a : Option Addr) (len cap : Nat) (l : List OpD) (w : World) (h : IsO w a len l ∧ len ≤ maxLen) :
    Calls Try.prog 4 #[.string s, .slice a len cap] w fun e w' => e = .returned (.bool true) ∧ Below w.heap.size w w' := by
  by_cases hs : s.size ≤ 100
  · cases hf : fewB l
    · exact off s a len cap l w h.1 h.2 (.inr hf)
    · exact core s a len cap l w hs h.1 h.2 hf
  · exact off s a len cap l w h.1 h.2 (.inl (by omega))

theorem own : ownKnob Try.prog.godebug = none := by kernel_rfl
theorem laidOut : laidOutB Try.prog = true := by kernel_rfl
set_option maxRecDepth 100000 in
theorem lifted (os : Os) (started : os.Started) (H : Type) (enc : TypeId × Value → H) :
    ReturnsInHanded {} Try.checked os 4 .any (Rows.bitsReadsSpec.pre6 enc Try.prog Try.f4 Rows.bitsReadsRow.domain false) (Rows.bitsReadsSpec.post enc Try.prog Try.f4 false true false false) := by
  refine returnsInHanded_of_change (C := Try.checked) own started (by kernel_rfl) Try.func4
    (ChangeSpec.witness6 (enc := enc) (C := Try.checked) false ⟨#[], #[.string ByteArray.empty, .slice none 0 0], []⟩ 8 (by kernel_rfl) (by kernel_rfl) (by kernel_rfl) (by kernel_rfl)) ?_
  intro W base args ds gs before hval0 hW hcnd _
  have hval : ∀ (j : Nat) t v, Try.f4.params[j]? = some t → args[j]? = some v → Value.okWide Try.prog W .any base t v := hval0
  have hW' := hW
  obtain ⟨p, q, hA0, hV, rfl, hfz, hnd⟩ := hW
  have hA : DataW.TrodAll enc Try.prog W 0 (fun _ => true) true Try.f4.params.toList args.toList ds p := hA0
  rw [Try.params4] at hA hval
  obtain ⟨v0, vs0, d0, ds0, p0, q0, hargs, rfl, rfl, h0, r0⟩ := trodAll_cons hA
  obtain ⟨v1, vs1, d1, ds1, p1, q1, rfl, rfl, rfl, h1, r1⟩ := trodAll_cons r0
  obtain ⟨rfl, rfl, rfl⟩ := trodAll_nil r1
  obtain rfl : args = #[v0, v1] := by cases args; simp_all
  obtain ⟨rfl, rfl⟩ := trodVars_none hV
  obtain ⟨a0, rfl, rfl, rfl, w0⟩ := open_string Try.underlying9 (hval 0 9 v0 rfl rfl) h0
  obtain ⟨a1, len1, cap1, rfl⟩ := okWide_slice Try.underlying22 (hval 1 22 v1 rfl rfl)
  have k1 := h1
  have lt1 : ∀ x ∈ p1, x.block < W.heap.size := by obtain ⟨m, hm⟩ := k1; exact DataW.trod_lt m _ _ _ hm
  obtain ⟨z1, w1⟩ := open_oprow h1
  clear hA0 hval0
  refine (walk a0 w0 a1 len1 cap1 z1 W w1).mono fun e W' ⟨he, bel⟩ => ?_
  subst he
  exact ⟨_, rfl, _, _, _, [], _, [], hW', trodAll_mk1 (shut_bool Try.underlying4 _), (trodAll_cons_mk (shut_string Try.underlying9 w0) (trodAll_cons_mk (Below.trod laidOut (by kernel_rfl) (of_decide_eq_true (by kernel_rfl)) k1 bel lt1) trodAll_mk0)), rfl, bel.frame _, fun h => by cases h⟩

theorem over : Rows.bitsReadsRow.holds Try.pinned (OpenSpec.ofChange Rows.bitsReadsSpec) :=
  OpenClaim.holds_of_wide 4 Try.f4 rfl rfl rfl rfl rfl rfl rfl ⟨rfl, rfl, rfl, rfl, rfl⟩ rfl rfl rfl rfl rfl (by kernel_rfl) Try.func4 (by kernel_rfl)
    (of_decide_eq_true (by kernel_rfl)) (by unfold Func.isWrapper; first | (rw [if_pos (by decide +kernel)]; kernel_rfl) | (rw [if_neg (by decide +kernel)]; exact ⟨rfl, rfl⟩))
    (fun os started H enc _ => lifted os started H enc)

theorem proved : Rows.BitsReadsSaid := over
#print axioms proved
end Go.Proofs.Ytfkadmcndjohbaa.bitsReads
