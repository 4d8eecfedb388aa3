/-
  For any pieces and any place JoinerBytes returns true: 188 bytes are taken as the packet that they are, or not at all, and what was dropped is forgotten; nothing that was there is changed. The table of widths of package packet starts as the program lays it.
-/
import Derived.SevenTiedAt
import Derived.Test.YtifbomppgflkfaaDoorRows
import Derived.Test.YtifbomppgflkfaaDoorCards
import Derived.Test.YtifbomppgflkfaaDoorTie
import Derived.Test.YtifbomppgflkfaaDoorPkLaid
import Derived.Test.YtifbomppgflkfaaDoorJnImp
import Derived.Test.YtifbomppgflkfaaDoorJnTwo
namespace Go.Proofs.YtifbomppgflkfaaDoor.joinerBytes
open Go.ChangeShapes Go.WideShapes Go.ChangeAt Go.RowKit Gf Pk Pr Jn
set_option maxRecDepth 100000
open Go.ChangeMaps (open_string shut_string)
set_option linter.unusedVariables false
theorem open_trow2 {H : Type} {enc : TypeId × Value → H} {W : World} {base : Nat} {held : Bool} {a : Option Addr} {len cap : Nat} {d : DataW H} {p : List MemPlace}
    (h : DataW.Trod enc Tryd.prog W base (fun _ => true) held 33 (.slice a len cap) d p) : ∃ l, IsT W a len l ∧ len ≤ cap ∧ len ≤ maxLen ∧ (a = none → len = 0 ∧ cap = 0) := by
  obtain ⟨l, h1, h2⟩ := open_trow h
  refine ⟨l, h1, h2, ?_⟩
  obtain ⟨fuel, hf⟩ := h
  rcases DataW.trod_slice Tryd.underlying33 hf with ⟨hcs, _⟩ | ⟨x, ln, cp, elems, rest, m, _, hcs, _, _, hlc, hlm, _⟩
  · simp [Value.cells] at hcs
    obtain ⟨rfl, rfl, rfl⟩ := hcs
    exact ⟨by decide, fun _ => ⟨rfl, rfl⟩⟩
  · simp [Value.cells] at hcs
    obtain ⟨rfl, rfl, rfl⟩ := hcs
    exact ⟨Nat.le_trans hlc hlm, fun e => (by cases e)⟩
def jyRel (A : JnApi) (S0 : Nat → Prop) (wL : World) (p q N : Nat) (i : Value) (wr : World) : Prop :=
  ∃ (k : Nat) (Sa Sb : Nat → Prop) (J : JS), k ≤ N ∧ i = .int .i64 (k : Int) ∧ Two16 A S0 wL p q Sa Sb J J wr ∧ J.hold.length < 4096 ∧ 0 ≤ J.lost ∧ J.lost ≤ (k : Int)
set_option maxHeartbeats 12800000 in
theorem core (A : JnApi) (a : Option Addr) (len cap : Nat) (L : List (List UInt8)) (w : World) (hI : IsT w a len L) (drop : Int) (hO : A.Ok w) :
    Calls Tryd.prog 4 #[.slice a len cap, .int .i64 drop] w fun e w' => e = .returned (.bool true) ∧ Below w.heap.size w w' := by
  have HW := Lib.hid (fun W (k : Keeps w W) => awake16_any A W W (Keeps.refl W) (A.okK hO k))
  have HOK := Lib.hid (fun W (k : Keeps w W) => A.okK hO k)
  have HN := Lib.hid (fun W => A.newOk 17 W (by decide))
  obtain ⟨N, hN⟩ : ∃ N, L.length = N := ⟨_, rfl⟩
  have hll : len = N := by rw [← hN]; exact hI.1
  subst hll
  have HI := Lib.hid hI
  have HNN := Lib.hid hN
  clear hI hN
  by_cases h30 : 30 < len
  · have hi : (30 : Int) < (len : Int) := by omega
    go_enter Tryd.func4, Tryd.ntmps4
    go_wp2_with (first | (go_at_call 8; refine (HN.out w1).mono ?_; rintro _ w2 ⟨q, S2, rfl, a2, k2, s2⟩; have HA2 := Lib.hid a2; have HK2 := Lib.hid (HK1.out.trans k2); have HS2 := Lib.hid s2; have HB1 := Lib.hid (A.foot HA1.out (k2.foot (fun _ => False)) (fun _ _ x => x)); clear a2 k2 s2) | (go_at_call 8; refine (HN.out w).mono ?_; rintro _ w1 ⟨p, S1, rfl, a1, k1, s1⟩; have HA1 := Lib.hid a1; have HK1 := Lib.hid k1; have HS1 := Lib.hid s1; clear a1 k1 s1) | (go_at_call 9; refine (HW.out _ HK2.out).mono ?_; rintro _ w9 ⟨rfl, k9⟩; have HK2 := Lib.hid (HK2.out.trans k9); clear k9))
    go_ret
    exact ⟨rfl, HK2.out⟩
  have hi : ¬ (30 : Int) < (len : Int) := by omega
  go_enter Tryd.func4, Tryd.ntmps4
  go_wp2_with (first | (go_at_call 8; refine (HN.out w1).mono ?_; rintro _ w2 ⟨q, S2, rfl, a2, k2, s2⟩; have HA2 := Lib.hid a2; have HK2 := Lib.hid (HK1.out.trans k2); have HS2 := Lib.hid s2; have HB1 := Lib.hid (A.foot HA1.out (k2.foot (fun _ => False)) (fun _ _ x => x)); clear a2 k2 s2) | (go_at_call 8; refine (HN.out w).mono ?_; rintro _ w1 ⟨p, S1, rfl, a1, k1, s1⟩; have HA1 := Lib.hid a1; have HK1 := Lib.hid k1; have HS1 := Lib.hid s1; clear a1 k1 s1))
  obtain ⟨S0, hS0⟩ : ∃ S0 : Nat → Prop, S0 = fun x => S1 x ∨ S2 x := ⟨_, rfl⟩
  have HK3 := HK2
  have HS0 := Lib.hid (show ∀ x, S0 x → w.heap.size ≤ x by
    subst hS0
    intro x hx
    exact hx.elim (HS1.out x) (fun y => Nat.le_trans (Below.size HK1.out) (HS2.out x y)))
  have HT0 := Lib.hid (show Two16 A S0 w2 p q S1 S2 js0 js0 w2 by
    subst hS0
    exact ⟨HB1.out, HA2.out, fun x h1 h2 => by have := A.old HA1.out x h1; have := HS2.out x h2; omega, Foot.refl _ _, fun _ h => .inl (.inl h), fun _ h => .inl (.inr h)⟩)
  clear hS0
  go_loopw [9] (fun i wr => jyRel A S0 w2 p q len i wr) (fun i _ => len - (intOf i).toNat)
  case atStart => exact ⟨0, S1, S2, js0, Nat.zero_le _, rfl, HT0.out, by decide, Int.le_refl _, Int.le_refl _⟩
  case round =>
    obtain ⟨k, Sa, Sb, J, hk, rfl, h2, hh, hl0, hl3⟩ := hrel
    have HT := Lib.hid h2
    clear h2
    by_cases hlt : k < len
    · have hlI : (k : Int) < (len : Int) := by omega
      have hkL : k < L.length := by rw [HNN.out]; exact hlt
      obtain ⟨b1, off1, rfl, _⟩ := HI.out.get hkL
      have HTC := Lib.hid (fun W (kk : Keeps w W) => show W.cell? ⟨b1, off1 + k, none⟩ = some (.string (st L[k])) by
        obtain ⟨b', off', ha', hc⟩ := (HI.out.keeps kk).get hkL
        cases ha'
        rw [List.getD_eq_getElem?_getD, List.getElem?_eq_getElem hkL] at hc
        exact hc)
      obtain ⟨T, hT⟩ : ∃ T, st L[k] = T := ⟨_, rfl⟩
      rw [hT] at HTC
      have wr1 := wrapI (a := (k : Int) + 1) (by omega) (by omega)
      clear hT
      have c1 := HTC.out _ (HT.out.f.keeps HK3.out HS0.out)
      by_cases hTz : 300 < T.size
      · have hTi : (300 : Int) < (T.size : Int) := by omega
        clear hh hl0 hl3
        go_wp2_with (first | (go_at_call 9; refine (HW.out _ (HT.out.f.keeps HK3.out HS0.out)).mono ?_; rintro _ w9 ⟨rfl, k9⟩; have HT := Lib.hid (HT.out.keeps k9); clear k9))
        go_ret
        exact ⟨rfl, (HT.out.f.keeps HK3.out HS0.out)⟩
      have hTi : ¬ (300 : Int) < (T.size : Int) := by omega
      by_cases hd : (k : Int) = drop
      · subst hd
        have HL0 := Lib.hid (fun (S : Nat → Prop) (W : World) (h : A.At S p 17 J W) => A.lost h)
        obtain ⟨Lo, hLo⟩ : ∃ Lo, J.lost = Lo := ⟨_, rfl⟩
        rw [hLo] at HL0
        have HDR := Lib.hid (fun (c : Nat) (S : Nat → Prop) (W : World) (h : A.At S c 17 J W) => A.drop h)
        have hj1 : (Jn.drop J).hold = [] := rfl
        have hj2 : (Jn.drop J).lost = Lo := hLo
        obtain ⟨J1, hJ1⟩ : ∃ J1, Jn.drop J = J1 := ⟨_, rfl⟩
        rw [hJ1] at HDR hj1 hj2
        have hh1 : J1.hold.length < 4096 := by rw [hj1]; decide
        have hl1 : 0 ≤ J1.lost := by omega
        have hl2 : J1.lost ≤ (k : Int) := by omega
        have HH1 := Lib.hid (fun (S : Nat → Prop) (W : World) (h : A.At S p 17 J1 W) => show Calls Tryd.prog 14 #[.pointer (some ⟨p, 0, none⟩)] W fun e w' => e = .returned (.string ⟨#[]⟩) ∧ Keeps W w' by have := A.held h; rw [hj1] at this; exact this)
        have HL1 := Lib.hid (fun (S : Nat → Prop) (W : World) (h : A.At S p 17 J1 W) => show Calls Tryd.prog 15 #[.pointer (some ⟨p, 0, none⟩)] W fun e w' => e = .returned (.int .i64 Lo) ∧ Keeps W w' by have := A.lost h; rw [hj2] at this; exact this)
        clear hh hl0 hl3 hLo hJ1 hj1 hj2
        have HDC := Lib.hid (fun W => rpkdecode_any W T W (by omega) (Keeps.refl W))
        unfold PkdPost at HDC
        by_cases hE : dcE (ls T) = 0
        · have hfd : feedD 17 J1 (ls T) = feed 17 J1 (dcP (ls T)) := by unfold feedD; rw [if_pos hE]
          have hPz : (dcP (ls T)).body.size ≤ 1000 := by
            show (st ((ls T).drop (frm (ls T)))).size ≤ 1000
            rw [st_size, List.length_drop, ← ls_size]; omega
          rw [dc_ok hE] at HDC
          have HBY := Lib.hid (fun (S : Nat → Prop) (W : World) (h : A.At S p 17 J1 W) (kk : Keeps w W) => A.bytes T h (HOK.out W kk) (by omega) (by omega) (by omega))
          unfold JnGoes at HBY
          rw [hfd] at HBY
          have hfh := feed_hold (pid := 17) (dcP (ls T)) hh1
          have hfl := feed_lost (pid := 17) (J := J1) (dcP (ls T))
          have hfo := feed_outs (pid := 17) (J := J1) (dcP (ls T))
          obtain ⟨P, hP⟩ : ∃ P, dcP (ls T) = P := ⟨_, rfl⟩
          rw [hP] at HBY HDC hfh hfl hfo hPz
          have HFD := Lib.hid (fun (S : Nat → Prop) (W : World) (h : A.At S q 17 J1 W) (kk : Keeps w W) => A.feed P h (HOK.out W kk) hPz (by omega) (by omega))
          unfold JnGoes at HFD
          obtain ⟨⟨J', out, e'⟩, hQ⟩ : ∃ Q, Jn.feed 17 J1 P = Q := ⟨_, rfl⟩
          rw [hQ] at HBY HFD hfh hfl hfo
          dsimp only at HBY HFD hfh hfl hfo HDC
          have HOZ := Lib.hid (show out.length ≤ 1000000000 by omega)
          have HJX := Lib.hid (show J'.hold.length < 4096 ∧ 0 ≤ J'.lost ∧ J'.lost ≤ (k : Int) + 1 by omega)
          have HHA := Lib.hid (fun (c : Nat) (S : Nat → Prop) (W : World) (h : A.At S c 17 J' W) => A.held h)
          have HLA := Lib.hid (fun (c : Nat) (S : Nat → Prop) (W : World) (h : A.At S c 17 J' W) => A.lost h)
          obtain ⟨Hn, hHn⟩ : ∃ Hn, st J'.hold = Hn := ⟨_, rfl⟩
          obtain ⟨Ln, hLn⟩ : ∃ Ln, J'.lost = Ln := ⟨_, rfl⟩
          rw [hHn] at HHA
          rw [hLn] at HLA
          obtain ⟨pi, start, cnt, bad, body⟩ := P
          clear hfd hfh hfl hfo hPz hP hQ hE hHn hLn hh1 hl1 hl2 hTz
          go_wp2_with (first | (go_at_call 15; (with_reducible refine (HL0.out _ _ HT.out.a).mono ?_); rintro _ w4 ⟨rfl, k4⟩; have HT := Lib.hid (HT.out.keeps k4); clear k4 HL0) | (go_at_call 16; (with_reducible refine (HDR.out p _ _ HT.out.a).mono ?_); rintro _ w5 ⟨S5, ⟨v5, rfl⟩, at5, f5, g5⟩; have HT := Lib.hid (HT.out.fa at5 f5 g5); clear at5 f5 g5) | (go_at_call 16; (with_reducible refine (HDR.out q _ _ HT.out.b).mono ?_); rintro _ w6 ⟨S6, ⟨v6, rfl⟩, at6, f6, g6⟩; have HT := Lib.hid (HT.out.fb at6 f6 g6); clear at6 f6 g6) | (go_at_call 15; (with_reducible refine (HL1.out _ _ HT.out.a).mono ?_); rintro _ w4 ⟨rfl, k4⟩; have HT := Lib.hid (HT.out.keeps k4); clear k4) | (go_at_call 14; (with_reducible refine (HH1.out _ _ HT.out.a).mono ?_); rintro _ w7 ⟨rfl, k7⟩; have HT := Lib.hid (HT.out.keeps k7); clear k7; have c7 := HTC.out _ (HT.out.f.keeps HK3.out HS0.out)) | (go_at_call 17; (with_reducible refine (HBY.out _ _ HT.out.a (HT.out.f.keeps HK3.out HS0.out)).mono ?_); rintro _ w8 ⟨a8, c8, S8, rfl, t8, _, at8, f8, g8, x8⟩; have HTX := Lib.hid t8; have HX8 := Lib.hid x8; have HTP := HT; have HT := Lib.hid (HT.out.fa at8 f8 g8); clear t8 at8 f8 g8 x8; have c9 := HTC.out _ (HT.out.f.keeps HK3.out HS0.out)) | (go_at_call 18; refine (HDC.out _).mono ?_; rintro _ w10 ⟨rfl, k10⟩; have HTX := Lib.hid (HTX.out.keeps k10); have HT := Lib.hid (HT.out.keeps k10); have HTA := Lib.hid (fun o => HT.out.keeps ((Keeps.refl w10).alloc o)); have HTXA := Lib.hid (fun o => HTX.out.keeps ((Keeps.refl w10).alloc o)); clear k10) | (go_at_call 10; (with_reducible refine (HFD.out _ _ (HTA.out _).b ((HTA.out _).f.keeps HK3.out HS0.out)).mono ?_); rintro _ w11 ⟨a11, c11, S11, rfl, t11, _, at11, f11, g11, _⟩; have HTY := Lib.hid t11; have HTX := Lib.hid ((HTXA.out _).foot f11 (fun x hx hb => by have h1 := (HX8.out x hx).2; have h2 := A.old HTP.out.b x.block hb; omega)); have HT := Lib.hid ((HTA.out _).fb at11 f11 g11); clear t11 at11 f11 g11) | (go_at_call 13; refine (show Calls Tryd.prog 13 #[.slice a8 out.length c8, .slice a11 out.length c11] w11 (fun e w' => e = .returned (.bool true) ∧ Eqv w11 w') by have h7 := jntexts_any (cap := c8) (cap' := c11) w11 HTX.out HTY.out HOZ.out; rw [decide_eq_true (rfl : out = out)] at h7; exact h7).mono ?_; rintro _ w12 ⟨rfl, k12⟩; have HT := Lib.hid (HT.out.keeps ((Keeps.refl w11).eqv k12)); clear k12) | (go_at_call 14; (with_reducible refine (HHA.out p _ _ HT.out.a).mono ?_); rintro _ w13 ⟨rfl, k13⟩; have HT := Lib.hid (HT.out.keeps k13); clear k13) | (go_at_call 14; (with_reducible refine (HHA.out q _ _ HT.out.b).mono ?_); rintro _ w14 ⟨rfl, k14⟩; have HT := Lib.hid (HT.out.keeps k14); clear k14) | (go_at_call 15; (with_reducible refine (HLA.out p _ _ HT.out.a).mono ?_); rintro _ w15 ⟨rfl, k15⟩; have HT := Lib.hid (HT.out.keeps k15); clear k15) | (go_at_call 15; (with_reducible refine (HLA.out q _ _ HT.out.b).mono ?_); rintro _ w16 ⟨rfl, k16⟩; have HT := Lib.hid (HT.out.keeps k16); clear k16))
          go_roundw
          case rel => exact ⟨k + 1, _, _, J', hlt, by go_num, HT.out, HJX.out.1, HJX.out.2.1, HJX.out.2.2⟩
          case measure => simp [intOf]; omega
        · have hfd : feedD 17 J1 (ls T) = (J1, [], dcE (ls T)) := by unfold feedD; rw [if_neg hE]
          rw [dc_no hE] at HDC
          have HBY := Lib.hid (fun (S : Nat → Prop) (W : World) (h : A.At S p 17 J1 W) (kk : Keeps w W) => A.bytes T h (HOK.out W kk) (by omega) (by omega) (by omega))
          unfold JnGoes at HBY
          rw [hfd] at HBY
          dsimp only [List.length_nil] at HBY HDC
          have hEb : (dcE (ls T) == 0) = false := by rw [beq_eq_false_iff_ne]; exact hE
          obtain ⟨E, hEE⟩ : ∃ E, dcE (ls T) = E := ⟨_, rfl⟩
          rw [hEE] at HBY HDC hEb
          unfold pk0 at HDC
          have HJX := Lib.hid (show J1.hold.length < 4096 ∧ 0 ≤ J1.lost ∧ J1.lost ≤ (k : Int) + 1 by omega)
          clear hfd hE hEE hh1 hl1 hl2 hTz
          go_wp2_with (first | (go_at_call 15; (with_reducible refine (HL0.out _ _ HT.out.a).mono ?_); rintro _ w4 ⟨rfl, k4⟩; have HT := Lib.hid (HT.out.keeps k4); clear k4 HL0) | (go_at_call 16; (with_reducible refine (HDR.out p _ _ HT.out.a).mono ?_); rintro _ w5 ⟨S5, ⟨v5, rfl⟩, at5, f5, g5⟩; have HT := Lib.hid (HT.out.fa at5 f5 g5); clear at5 f5 g5) | (go_at_call 16; (with_reducible refine (HDR.out q _ _ HT.out.b).mono ?_); rintro _ w6 ⟨S6, ⟨v6, rfl⟩, at6, f6, g6⟩; have HT := Lib.hid (HT.out.fb at6 f6 g6); clear at6 f6 g6) | (go_at_call 15; (with_reducible refine (HL1.out _ _ HT.out.a).mono ?_); rintro _ w4 ⟨rfl, k4⟩; have HT := Lib.hid (HT.out.keeps k4); clear k4) | (go_at_call 14; (with_reducible refine (HH1.out _ _ HT.out.a).mono ?_); rintro _ w7 ⟨rfl, k7⟩; have HT := Lib.hid (HT.out.keeps k7); clear k7; have c7 := HTC.out _ (HT.out.f.keeps HK3.out HS0.out)) | (go_at_call 17; (with_reducible refine (HBY.out _ _ HT.out.a (HT.out.f.keeps HK3.out HS0.out)).mono ?_); rintro _ w8 ⟨a8, c8, S8, rfl, t8, _, at8, f8, g8, x8⟩; have HTX := Lib.hid t8; have HX8 := Lib.hid x8; have HTP := HT; have HT := Lib.hid (HT.out.fa at8 f8 g8); clear t8 at8 f8 g8 x8; have c9 := HTC.out _ (HT.out.f.keeps HK3.out HS0.out)) | (go_at_call 18; refine (HDC.out _).mono ?_; rintro _ w10 ⟨rfl, k10⟩; have HTX := Lib.hid (HTX.out.keeps k10); have HT := Lib.hid (HT.out.keeps k10); have HTA := Lib.hid (fun o => HT.out.keeps ((Keeps.refl w10).alloc o)); have HTXA := Lib.hid (fun o => HTX.out.keeps ((Keeps.refl w10).alloc o)); clear k10) | (go_at_call 14; (with_reducible refine (HH1.out _ _ (HTA.out _).a).mono ?_); rintro _ w17 ⟨rfl, k17⟩; have HT := Lib.hid ((HTA.out _).keeps k17); clear k17))
          go_roundw
          case rel => exact ⟨k + 1, _, _, J1, hlt, by go_num, HT.out, HJX.out.1, HJX.out.2.1, HJX.out.2.2⟩
          case measure => simp [intOf]; omega
      · have hdb : ((k : Int) == drop) = false := by rw [beq_eq_false_iff_ne]; exact hd
        have HH1 := Lib.hid (fun (S : Nat → Prop) (W : World) (h : A.At S p 17 J W) => A.held h)
        obtain ⟨Hs, hHs⟩ : ∃ Hs, st J.hold = Hs := ⟨_, rfl⟩
        rw [hHs] at HH1
        obtain ⟨J1, hJ1⟩ : ∃ J1, J1 = J := ⟨_, rfl⟩
        rw [← hJ1] at HT HH1 hh hl0 hl3
        have hh1 := hh
        have hl1 := hl0
        have hl2 := hl3
        clear hd hJ1 hHs hh hl0 hl3
        have HDC := Lib.hid (fun W => rpkdecode_any W T W (by omega) (Keeps.refl W))
        unfold PkdPost at HDC
        by_cases hE : dcE (ls T) = 0
        · have hfd : feedD 17 J1 (ls T) = feed 17 J1 (dcP (ls T)) := by unfold feedD; rw [if_pos hE]
          have hPz : (dcP (ls T)).body.size ≤ 1000 := by
            show (st ((ls T).drop (frm (ls T)))).size ≤ 1000
            rw [st_size, List.length_drop, ← ls_size]; omega
          rw [dc_ok hE] at HDC
          have HBY := Lib.hid (fun (S : Nat → Prop) (W : World) (h : A.At S p 17 J1 W) (kk : Keeps w W) => A.bytes T h (HOK.out W kk) (by omega) (by omega) (by omega))
          unfold JnGoes at HBY
          rw [hfd] at HBY
          have hfh := feed_hold (pid := 17) (dcP (ls T)) hh1
          have hfl := feed_lost (pid := 17) (J := J1) (dcP (ls T))
          have hfo := feed_outs (pid := 17) (J := J1) (dcP (ls T))
          obtain ⟨P, hP⟩ : ∃ P, dcP (ls T) = P := ⟨_, rfl⟩
          rw [hP] at HBY HDC hfh hfl hfo hPz
          have HFD := Lib.hid (fun (S : Nat → Prop) (W : World) (h : A.At S q 17 J1 W) (kk : Keeps w W) => A.feed P h (HOK.out W kk) hPz (by omega) (by omega))
          unfold JnGoes at HFD
          obtain ⟨⟨J', out, e'⟩, hQ⟩ : ∃ Q, Jn.feed 17 J1 P = Q := ⟨_, rfl⟩
          rw [hQ] at HBY HFD hfh hfl hfo
          dsimp only at HBY HFD hfh hfl hfo HDC
          have HOZ := Lib.hid (show out.length ≤ 1000000000 by omega)
          have HJX := Lib.hid (show J'.hold.length < 4096 ∧ 0 ≤ J'.lost ∧ J'.lost ≤ (k : Int) + 1 by omega)
          have HHA := Lib.hid (fun (c : Nat) (S : Nat → Prop) (W : World) (h : A.At S c 17 J' W) => A.held h)
          have HLA := Lib.hid (fun (c : Nat) (S : Nat → Prop) (W : World) (h : A.At S c 17 J' W) => A.lost h)
          obtain ⟨Hn, hHn⟩ : ∃ Hn, st J'.hold = Hn := ⟨_, rfl⟩
          obtain ⟨Ln, hLn⟩ : ∃ Ln, J'.lost = Ln := ⟨_, rfl⟩
          rw [hHn] at HHA
          rw [hLn] at HLA
          obtain ⟨pi, start, cnt, bad, body⟩ := P
          clear hfd hfh hfl hfo hPz hP hQ hE hHn hLn hh1 hl1 hl2 hTz
          go_wp2_with (first | (go_at_call 14; (with_reducible refine (HH1.out _ _ HT.out.a).mono ?_); rintro _ w7 ⟨rfl, k7⟩; have HT := Lib.hid (HT.out.keeps k7); clear k7; have c7 := HTC.out _ (HT.out.f.keeps HK3.out HS0.out)) | (go_at_call 17; (with_reducible refine (HBY.out _ _ HT.out.a (HT.out.f.keeps HK3.out HS0.out)).mono ?_); rintro _ w8 ⟨a8, c8, S8, rfl, t8, _, at8, f8, g8, x8⟩; have HTX := Lib.hid t8; have HX8 := Lib.hid x8; have HTP := HT; have HT := Lib.hid (HT.out.fa at8 f8 g8); clear t8 at8 f8 g8 x8; have c9 := HTC.out _ (HT.out.f.keeps HK3.out HS0.out)) | (go_at_call 18; refine (HDC.out _).mono ?_; rintro _ w10 ⟨rfl, k10⟩; have HTX := Lib.hid (HTX.out.keeps k10); have HT := Lib.hid (HT.out.keeps k10); have HTA := Lib.hid (fun o => HT.out.keeps ((Keeps.refl w10).alloc o)); have HTXA := Lib.hid (fun o => HTX.out.keeps ((Keeps.refl w10).alloc o)); clear k10) | (go_at_call 10; (with_reducible refine (HFD.out _ _ (HTA.out _).b ((HTA.out _).f.keeps HK3.out HS0.out)).mono ?_); rintro _ w11 ⟨a11, c11, S11, rfl, t11, _, at11, f11, g11, _⟩; have HTY := Lib.hid t11; have HTX := Lib.hid ((HTXA.out _).foot f11 (fun x hx hb => by have h1 := (HX8.out x hx).2; have h2 := A.old HTP.out.b x.block hb; omega)); have HT := Lib.hid ((HTA.out _).fb at11 f11 g11); clear t11 at11 f11 g11) | (go_at_call 13; refine (show Calls Tryd.prog 13 #[.slice a8 out.length c8, .slice a11 out.length c11] w11 (fun e w' => e = .returned (.bool true) ∧ Eqv w11 w') by have h7 := jntexts_any (cap := c8) (cap' := c11) w11 HTX.out HTY.out HOZ.out; rw [decide_eq_true (rfl : out = out)] at h7; exact h7).mono ?_; rintro _ w12 ⟨rfl, k12⟩; have HT := Lib.hid (HT.out.keeps ((Keeps.refl w11).eqv k12)); clear k12) | (go_at_call 14; (with_reducible refine (HHA.out p _ _ HT.out.a).mono ?_); rintro _ w13 ⟨rfl, k13⟩; have HT := Lib.hid (HT.out.keeps k13); clear k13) | (go_at_call 14; (with_reducible refine (HHA.out q _ _ HT.out.b).mono ?_); rintro _ w14 ⟨rfl, k14⟩; have HT := Lib.hid (HT.out.keeps k14); clear k14) | (go_at_call 15; (with_reducible refine (HLA.out p _ _ HT.out.a).mono ?_); rintro _ w15 ⟨rfl, k15⟩; have HT := Lib.hid (HT.out.keeps k15); clear k15) | (go_at_call 15; (with_reducible refine (HLA.out q _ _ HT.out.b).mono ?_); rintro _ w16 ⟨rfl, k16⟩; have HT := Lib.hid (HT.out.keeps k16); clear k16))
          go_roundw
          case rel => exact ⟨k + 1, _, _, J', hlt, by go_num, HT.out, HJX.out.1, HJX.out.2.1, HJX.out.2.2⟩
          case measure => simp [intOf]; omega
        · have hfd : feedD 17 J1 (ls T) = (J1, [], dcE (ls T)) := by unfold feedD; rw [if_neg hE]
          rw [dc_no hE] at HDC
          have HBY := Lib.hid (fun (S : Nat → Prop) (W : World) (h : A.At S p 17 J1 W) (kk : Keeps w W) => A.bytes T h (HOK.out W kk) (by omega) (by omega) (by omega))
          unfold JnGoes at HBY
          rw [hfd] at HBY
          dsimp only [List.length_nil] at HBY HDC
          have hEb : (dcE (ls T) == 0) = false := by rw [beq_eq_false_iff_ne]; exact hE
          obtain ⟨E, hEE⟩ : ∃ E, dcE (ls T) = E := ⟨_, rfl⟩
          rw [hEE] at HBY HDC hEb
          unfold pk0 at HDC
          have HJX := Lib.hid (show J1.hold.length < 4096 ∧ 0 ≤ J1.lost ∧ J1.lost ≤ (k : Int) + 1 by omega)
          clear hfd hE hEE hh1 hl1 hl2 hTz
          go_wp2_with (first | (go_at_call 14; (with_reducible refine (HH1.out _ _ HT.out.a).mono ?_); rintro _ w7 ⟨rfl, k7⟩; have HT := Lib.hid (HT.out.keeps k7); clear k7; have c7 := HTC.out _ (HT.out.f.keeps HK3.out HS0.out)) | (go_at_call 17; (with_reducible refine (HBY.out _ _ HT.out.a (HT.out.f.keeps HK3.out HS0.out)).mono ?_); rintro _ w8 ⟨a8, c8, S8, rfl, t8, _, at8, f8, g8, x8⟩; have HTX := Lib.hid t8; have HX8 := Lib.hid x8; have HTP := HT; have HT := Lib.hid (HT.out.fa at8 f8 g8); clear t8 at8 f8 g8 x8; have c9 := HTC.out _ (HT.out.f.keeps HK3.out HS0.out)) | (go_at_call 18; refine (HDC.out _).mono ?_; rintro _ w10 ⟨rfl, k10⟩; have HTX := Lib.hid (HTX.out.keeps k10); have HT := Lib.hid (HT.out.keeps k10); have HTA := Lib.hid (fun o => HT.out.keeps ((Keeps.refl w10).alloc o)); have HTXA := Lib.hid (fun o => HTX.out.keeps ((Keeps.refl w10).alloc o)); clear k10) | (go_at_call 14; (with_reducible refine (HH1.out _ _ (HTA.out _).a).mono ?_); rintro _ w17 ⟨rfl, k17⟩; have HT := Lib.hid ((HTA.out _).keeps k17); clear k17))
          go_roundw
          case rel => exact ⟨k + 1, _, _, J1, hlt, by go_num, HT.out, HJX.out.1, HJX.out.2.1, HJX.out.2.2⟩
          case measure => simp [intOf]; omega
    · have hlI : ¬ (k : Int) < (len : Int) := by omega
      clear hh hl0 hl3
      go_wp2_with (first | (go_at_call 9; refine (HW.out _ (HT.out.f.keeps HK3.out HS0.out)).mono ?_; rintro _ w9 ⟨rfl, k9⟩; have HT := Lib.hid (HT.out.keeps k9); clear k9))
      go_ret
      exact ⟨rfl, (HT.out.f.keeps HK3.out HS0.out)⟩
theorem walk (a : Option Addr) (len cap : Nat) (L : List (List UInt8)) (w : World) (hI0 : IsT w a len L ∧ len ≤ cap ∧ len ≤ maxLen ∧ (a = none → len = 0 ∧ cap = 0)) (drop : Int) (hdw : (Lit.int .i64 drop).wf = true) (hW : Wd w) :
    Calls Tryd.prog 4 #[.slice a len cap, .int .i64 drop] w fun e w' => e = .returned (.bool true) ∧ Below w.heap.size w w' :=
  core joinerApi a len cap L w hI0.1 drop hW

theorem own : ownKnob Tryd.prog.godebug = none := by kernel_rfl
theorem laidOut : laidOutB Tryd.prog = true := by kernel_rfl
set_option maxRecDepth 100000 in
theorem lifted (os : Os) (started : os.Started) (H : Type) (enc : TypeId × Value → H) :
    ReturnsInHanded {} Tryd.checked os 4 .any (fun w args => (Rows.joinerBytesSpec.pre enc Tryd.prog Tryd.f4 [] false w args ∧ laidMetH Tryd.prog [("clarion/packet.wide", Rows.laid_clarion_packet_wide)] w) ∧ sizedMet enc Tryd.prog Tryd.f4 (OpenSpec.ofChange Rows.joinerBytesSpec) false w args) (Rows.joinerBytesSpec.post enc Tryd.prog Tryd.f4 false true false false) := by
  refine returnsInHanded_of_change_and (C := Tryd.checked) (X := fun w _ => laidMetH Tryd.prog [("clarion/packet.wide", Rows.laid_clarion_packet_wide)] w) (fun _ _ _ hh h => h.of_heap hh) own started (by kernel_rfl) Tryd.func4
    (ChangeSpec.witness_shaped (enc := enc) (C := Tryd.checked) (os := os) (X := fun w _ => laidMetH Tryd.prog [("clarion/packet.wide", Rows.laid_clarion_packet_wide)] w) false (World.doorLaid Tryd.prog 400 os) #[.slice none 0 0, .int .i64 0] 8 rfl (World.shaped_of_RefB (by kernel_rfl) (by kernel_rfl)) (by kernel_rfl) (by kernel_rfl) (by kernel_rfl) (door_met os _)) ?_
  intro W base args ds gs before hval0 hW hcnd _ hL _
  have hval : ∀ (j : Nat) t v, Tryd.f4.params[j]? = some t → args[j]? = some v → Value.okWide Tryd.prog W .any base t v := hval0
  have hW' := hW
  obtain ⟨p, q, hA0, hV, rfl, hfz, hnd⟩ := hW
  have hA : DataW.TrodAll enc Tryd.prog W 0 (fun _ => true) true Tryd.f4.params.toList args.toList ds p := hA0
  rw [Tryd.params4] at hA hval
  obtain ⟨v0, vs0, d0, ds0, p0, q0, hargs, rfl, rfl, h0, r0⟩ := trodAll_cons hA
  obtain ⟨v1, vs1, d1, ds1, p1, q1, rfl, rfl, rfl, h1, r1⟩ := trodAll_cons r0
  obtain ⟨rfl, rfl, rfl⟩ := trodAll_nil r1
  obtain rfl : args = #[v0, v1] := by cases args; simp_all
  obtain ⟨rfl, rfl⟩ := trodVars_none hV
  obtain ⟨a0, len0, cap0, rfl⟩ := okWide_slice Tryd.underlying33 (hval 0 33 v0 rfl rfl)
  have k0 := h0
  have lt0 : ∀ x ∈ p0, x.block < W.heap.size := by obtain ⟨m, hm⟩ := k0; exact DataW.trod_lt m _ _ _ hm
  obtain ⟨z0, w0⟩ := open_trow2 h0
  obtain ⟨a1, rfl, rfl, rfl, w1⟩ := open_int Tryd.underlying3 (hval 1 3 v1 rfl rfl) h1
  clear hA0 hval0
  refine (walk a0 len0 cap0 z0 W w0 a1 w1 (wd_of_laid hL)).mono fun e W' ⟨he, bel⟩ => ?_
  subst he
  exact ⟨_, rfl, _, _, _, [], _, [], hW', trodAll_mk1 (shut_bool Tryd.underlying4 _), (trodAll_cons_mk (Below.trod laidOut (by kernel_rfl) (of_decide_eq_true (by kernel_rfl)) k0 bel lt0) (trodAll_cons_mk (shut_int Tryd.underlying3 w1) trodAll_mk0)), rfl, bel.frame _, fun h => by cases h⟩

theorem over : Rows.joinerBytesRow.holds Tryd.pinned (OpenSpec.ofChange Rows.joinerBytesSpec) :=
  OpenClaim.holds_of_wide 4 Tryd.f4 rfl rfl rfl rfl rfl rfl rfl ⟨rfl, rfl, rfl, rfl, rfl⟩ rfl rfl rfl rfl rfl (by kernel_rfl) Tryd.func4 (by kernel_rfl)
    (of_decide_eq_true (by kernel_rfl)) (by unfold Func.isWrapper; first | (rw [if_pos (by decide +kernel)]; kernel_rfl) | (rw [if_neg (by decide +kernel)]; exact ⟨rfl, rfl⟩))
    (fun os started H enc _ => lifted os started H enc)

set_option maxRecDepth 100000 in
theorem proved : Rows.JoinerBytesCardSaid :=
  Claim7.holds_tied_plain_at .later [] [.data] true (true, _) false over (fun _ h => by cases h) (by kernel_rfl) (fun _ h => by cases h) joinerBytes_row_tie rfl ⟨rfl, rfl⟩ (by kernel_rfl) rfl
    (fun f fn hf hfn => by
      obtain rfl : f = 4 := Option.some.inj ((show Tryd.prog.funcNamed "clarion/clarionlaw16.JoinerBytes" = some 4 by kernel_rfl).symm.trans hf) |>.symm
      obtain rfl : fn = Tryd.f4 := (Option.some.inj (Tryd.func4.symm.trans hfn)).symm
      exact ⟨by kernel_rfl, fun j t ht => by
        rw [Tryd.params4] at ht
        have hm : t ∈ [33, 3] := by simpa using Array.mem_of_getElem? ht
        have hall : ([33, 3].all fun u => !Tryd.prog.wantsStandIn u) = true := by kernel_rfl
        exact (show Tryd.prog.wantsStandIn t = false by simpa using List.all_eq_true.1 hall t hm)⟩)
    (by kernel_rfl)
#print axioms proved
end Go.Proofs.YtifbomppgflkfaaDoor.joinerBytes
