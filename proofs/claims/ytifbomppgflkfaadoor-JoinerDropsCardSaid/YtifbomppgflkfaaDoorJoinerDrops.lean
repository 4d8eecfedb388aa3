/-
  For any bodies and any place JoinerDrops returns true: behind a Drop nothing is held, and packets go on from the next one in which a section begins; nothing that was there is changed. The table of widths of package packet starts as the program lays it.
-/
import Derived.SevenTiedAt
import Derived.Test.YtifbomppgflkfaaDoorRows
import Derived.Test.YtifbomppgflkfaaDoorCards
import Derived.Test.YtifbomppgflkfaaDoorTie
import Derived.Test.YtifbomppgflkfaaDoorPkLaid
import Derived.Test.YtifbomppgflkfaaDoorJnImp
import Derived.Test.YtifbomppgflkfaaDoorJnTwo
namespace Go.Proofs.YtifbomppgflkfaaDoor.joinerDrops
open Go.ChangeShapes Go.WideShapes Go.ChangeAt Go.RowKit Gf Pk Pr Jn
set_option maxRecDepth 100000
open Go.ChangeMaps (open_string shut_string)
set_option linter.unusedVariables false
theorem open_trow2 {H : Type} {enc : TypeId × Value → H} {W : World} {base : Nat} {held : Bool} {a : Option Addr} {len cap : Nat} {d : DataW H} {p : List MemPlace}
    (h : DataW.Trod enc Tryd.prog W base (fun _ => true) held 33 (.slice a len cap) d p) : ∃ l, IsT W a len l ∧ len ≤ cap ∧ len ≤ maxLen ∧ (a = none → len = 0 ∧ cap = 0) := by
  obtain ⟨l, h1, h2⟩ := open_trow h
  refine ⟨l, h1, h2, ?_⟩
  obtain ⟨fuel, hf⟩ := h
  rcases DataW.trod_slice Tryd.underlying33 hf with ⟨hcs, _⟩ | ⟨x, ln, cp, elems, rest, m, _, hcs, _, _, hlc, hlm, _⟩
  · simp [Value.cells] at hcs
    obtain ⟨rfl, rfl, rfl⟩ := hcs
    exact ⟨by decide, fun _ => ⟨rfl, rfl⟩⟩
  · simp [Value.cells] at hcs
    obtain ⟨rfl, rfl, rfl⟩ := hcs
    exact ⟨Nat.le_trans hlc hlm, fun e => (by cases e)⟩
def jdRel (A : JnApi) (S0 : Nat → Prop) (wL : World) (L : List (List UInt8)) (drop : Int) (p q N : Nat) (i : Value) (wr : World) : Prop :=
  ∃ (k : Nat) (Sa Sb : Nat → Prop) (J K : JS), k ≤ N ∧ i = .int .i64 (k : Int) ∧ Two16 A S0 wL p q Sa Sb J K wr ∧ (∃ b r, JnGo 0 L k b r J) ∧ J.hold.length < 4096 ∧ ((k : Int) ≤ drop ∧ K = js0 ∨ ¬ (k : Int) ≤ drop ∧ K = J)
set_option maxHeartbeats 12800000 in
theorem core (A : JnApi) (a : Option Addr) (len cap : Nat) (L : List (List UInt8)) (w : World) (hI : IsT w a len L) (hlm : len ≤ maxLen) (drop : Int) (hdw : (Lit.int .i64 drop).wf = true) (hO : A.Ok w) :
    Calls Tryd.prog 7 #[.slice a len cap, .int .i64 drop] w fun e w' => e = .returned (.bool true) ∧ Below w.heap.size w w' := by
  have HW := Lib.hid (fun W (k : Keeps w W) => awake16_any A W W (Keeps.refl W) (A.okK hO k))
  clear hdw
  have HFE := Lib.hid (jnfew_any (cap := cap) w hI hlm)
  obtain ⟨F, hF⟩ : ∃ F, fewJ L = F := ⟨_, rfl⟩
  rw [hF] at HFE
  cases F with
  | false =>
    have HK := Lib.hid (Keeps.refl w)
    clear hF hI
    go_enter Tryd.func7, Tryd.ntmps7
    go_wp2_with (first | (go_at_call 19; refine HFE.out.mono ?_; rintro _ w1 ⟨rfl, rfl⟩) | (go_at_call 9; refine (HW.out _ HK.out).mono ?_; rintro _ w9 ⟨rfl, k9⟩; have HK := Lib.hid (HK.out.trans k9); clear k9))
    go_ret
    exact ⟨rfl, HK.out⟩
  | true =>
    obtain ⟨hz, hn⟩ := fewJ_iff hF
    have HOK := Lib.hid (fun W (k : Keeps w W) => A.okK hO k)
    have HN := Lib.hid (fun W => A.newOk 17 W (by decide))
    have HPK := Lib.hid (fun W (k : Keeps w W) => jnpacked_any (cap := cap) W 0 (hI.keeps k) hz hn ⟨by decide, by decide⟩)
    have HSO := Lib.hid (secsB_ok hz)
    have HSZ := Lib.hid (secsB_sizes hz)
    have HBN := Lib.hid (secsB_bodies hz hn)
    obtain ⟨M, hM⟩ : ∃ M, secsB L = M := ⟨_, rfl⟩
    rw [hM] at HPK HSO HSZ HBN
    obtain ⟨B, hB⟩ : ∃ B, bodies M = B := ⟨_, rfl⟩
    rw [hB] at HPK HSZ HBN
    obtain ⟨N, hNN⟩ : ∃ N, B.length = N := ⟨_, rfl⟩
    rw [hNN] at HPK HBN
    have HB := Lib.hid hB
    have HNN := Lib.hid hNN
    clear hF hI hz hn hM hB hNN
    go_enter Tryd.func7, Tryd.ntmps7
    go_wp2_with (first | (go_at_call 19; refine HFE.out.mono ?_; rintro _ w1 ⟨rfl, rfl⟩) | (go_at_call 8; refine (HN.out w1).mono ?_; rintro _ w2 ⟨q, S2, rfl, a2, k2, s2⟩; have HA2 := Lib.hid a2; have HK2 := Lib.hid (HK1.out.trans k2); have HS2 := Lib.hid s2; have HZ2 := Lib.hid (Below.size k2); have HB1 := Lib.hid (A.foot HA1.out (k2.foot (fun _ => False)) (fun _ _ x => x)); clear a2 k2 s2) | (go_at_call 8; refine (HN.out w).mono ?_; rintro _ w1 ⟨p, S1, rfl, a1, k1, s1⟩; have HA1 := Lib.hid a1; have HK1 := Lib.hid k1; have HS1 := Lib.hid s1; clear a1 k1 s1) | (go_at_call 20; refine (HPK.out _ HK2.out).mono ?_; rintro _ w3 ⟨v, u, rfl, ov, ou, k3⟩; have HU := Lib.hid ou; have HC3 := Lib.hid k3; clear ov ou k3))
    obtain ⟨au, cu, hu, hiu, hbu⟩ := HU.out.row16
    rw [pkF_length] at hu hiu
    subst hu
    have HIU := Lib.hid hiu
    have HK3 := Lib.hid (HK2.out.trans HC3.out)
    obtain ⟨S0, hS0⟩ : ∃ S0 : Nat → Prop, S0 = fun x => S1 x ∨ S2 x := ⟨_, rfl⟩
    have HS0 := Lib.hid (show ∀ x, S0 x → w.heap.size ≤ x by
      subst hS0
      intro x hx
      exact hx.elim (HS1.out x) (fun y => Nat.le_trans (Below.size HK1.out) (HS2.out x y)))
    have HBU := Lib.hid (show ∀ x, au = some x → ¬ S0 x.block by
      subst hS0
      intro x hx hs
      have h1 := hbu x hx
      rcases hs with y | y
      · have := A.old HB1.out x.block y; omega
      · have := A.old HA2.out x.block y; omega)
    have HT0 := Lib.hid (show Two16 A S0 w3 p q S1 S2 js0 js0 w3 by
      subst hS0
      exact ⟨A.foot HB1.out (HC3.out.foot (fun _ => False)) (fun _ _ x => x), A.foot HA2.out (HC3.out.foot (fun _ => False)) (fun _ _ x => x), fun x h1 h2 => by have := A.old HA1.out x h1; have := HS2.out x h2; omega, Foot.refl _ _, fun _ h => .inl (.inl h), fun _ h => .inl (.inr h)⟩)
    clear hiu hbu hS0
    go_loopw [11] (fun i wr => jdRel A S0 w3 M drop p q N i wr) (fun i _ => N - (intOf i).toNat)
    case atStart =>
      refine ⟨0, S1, S2, js0, js0, Nat.zero_le _, rfl, HT0.out, ⟨0, 0, JnGo.start 0 M⟩, by decide, ?_⟩
      by_cases hd : (0 : Int) ≤ drop
      · exact .inl ⟨hd, rfl⟩
      · exact .inr ⟨hd, rfl⟩
    case round =>
      obtain ⟨k, Sa, Sb, J, K, hk, rfl, h2, ⟨bb, rr, hgo⟩, hh, hcase⟩ := hrel
      have HT := Lib.hid h2
      have hnb := HBN.out
      clear h2
      by_cases hlt : k < N
      · have hlI : (k : Int) < (N : Int) := by omega
        have hkB : k < B.length := by rw [HNN.out]; exact hlt
        have HLT := Lib.hid hlt
        obtain ⟨bu, off, rfl, hrg⟩ := pk16_range HIU.out HBU.out (i := k) (by rw [pkF_length]; exact hlt)
        have hPg : (pkF 0 B N)[k]'(by rw [pkF_length]; exact hlt) = bdP 0 B[k] k := by
          have h1 := pkF_get (count := 0) hlt hkB
          rw [List.getElem?_eq_getElem (by rw [pkF_length]; exact hlt)] at h1
          exact Option.some.inj h1
        rw [hPg] at hrg
        have hPz : (bdP 0 B[k] k).body.size ≤ 1000 := by
          have := (HSZ.out _ (List.getElem_mem hkB)).2
          show (st B[k].2).size ≤ 1000
          rw [st_size]; omega
        obtain ⟨P, hP⟩ : ∃ P, bdP 0 B[k] k = P := ⟨_, rfl⟩
        rw [hP] at hrg hPz
        have HR := Lib.hid hrg
        have wr1 := wrapI (a := (k : Int) + 1) (by omega) (by omega)
        clear hrg hPg
        rcases (show (k : Int) = drop ∨ (k : Int) < drop ∨ drop < (k : Int) by omega) with hd | hd | hd
        · obtain ⟨_, rfl⟩ : (k : Int) ≤ drop ∧ K = js0 := hcase.elim id fun x => absurd (by omega) x.1
          subst hd
          obtain ⟨hdj, hg0⟩ := hgo.drops
          have HH0 := Lib.hid (fun (S : Nat → Prop) (W : World) (h : A.At S p 17 js0 W) => show Calls Tryd.prog 14 #[.pointer (some ⟨p, 0, none⟩)] W fun e w' => e = .returned (.string ⟨#[]⟩) ∧ Keeps W w' from A.held h)
          have hl0 : js0.hold.length = 0 := rfl
          have hl1 : js0.lost = 0 := rfl
          obtain ⟨J0, hJ0⟩ : ∃ J0, js0 = J0 := ⟨_, rfl⟩
          rw [hJ0] at hdj hg0 HT HH0 hl0 hl1
          have HDJ := Lib.hid hdj
          clear hJ0
          have hd1 : (0 : Int) ≤ (k : Int) := by omega
          clear hdj
          obtain ⟨b', r', go', hla, he0, _, _, _⟩ := JnGo.step hg0 HSO.out (by rw [HB.out]; exact HSZ.out) (by rw [HB.out]; exact hkB)
          simp only [HB.out] at go' hla he0
          rw [hP] at go' hla he0
          have hfh := feed_hold (pid := 17) P (show J0.hold.length < 4096 by omega)
          have hfo := feed_outs (pid := 17) (J := J0) P
          obtain ⟨⟨J', out, e'⟩, hQ⟩ : ∃ Q, Jn.feed 17 J0 P = Q := ⟨_, rfl⟩
          rw [hQ] at go' hla he0 hfh hfo
          dsimp only at go' hla he0 hfh hfo
          subst he0
          have HFD := Lib.hid (fun (c : Nat) (S : Nat → Prop) (W : World) (h : A.At S c 17 J0 W) (kk : Keeps w W) => A.feed P h (HOK.out W kk) hPz (by omega) (by omega))
          unfold JnGoes at HFD
          rw [hQ] at HFD
          dsimp only at HFD
          have HOZ := Lib.hid (show out.length ≤ 1000000000 by omega)
          have HGO := Lib.hid go'
          have HFH := Lib.hid hfh
          obtain ⟨pi, start, count, bad, body⟩ := P
          clear hP hPz go' hla hfh hfo hQ hgo hcase hh hk
          clear hg0 hl0 hl1
          go_wp2_with (first | (go_at_call 16; refine (A.drop HT.out.a).mono ?_; rintro _ w5 ⟨S5, ⟨v5, rfl⟩, at5, f5, g5⟩; rw [HDJ.out] at at5; have HT := Lib.hid (HT.out.fa at5 f5 g5); clear at5 f5 g5) | (refine wp_ldP (b := bu) (off := off + k * 5) (HR.out _ HT.out.f) rfl _ rfl rfl ?_) | (go_at_call 14; (with_reducible refine (HH0.out _ _ HT.out.a).mono ?_); rintro _ w6 ⟨rfl, k6⟩; have HT := Lib.hid (HT.out.keeps k6); clear k6) | (go_at_call 10; (with_reducible refine (HFD.out q _ _ HT.out.b (HT.out.f.keeps HK3.out HS0.out)).mono ?_); rintro _ w8 ⟨a8, c8, S8, rfl, t8, _, at8, f8, g8, x8⟩; have HTY := Lib.hid t8; have HTX := Lib.hid (HTX.out.foot f8 (fun x hx hb => by have h1 := (HX7.out x hx).2; have h2 := A.old HTP.out.b x.block hb; omega)); have HT := Lib.hid (HT.out.fb at8 f8 g8); clear t8 at8 f8 g8 x8 HR) | (go_at_call 10; (with_reducible refine (HFD.out p _ _ HT.out.a (HT.out.f.keeps HK3.out HS0.out)).mono ?_); rintro _ w7 ⟨a7, c7, S7, rfl, t7, _, at7, f7, g7, x7⟩; have HTX := Lib.hid t7; have HX7 := Lib.hid x7; have HTP := HT; have HT := Lib.hid (HT.out.fa at7 f7 g7); clear t7 at7 f7 g7 x7) | (go_at_call 13; refine (show Calls Tryd.prog 13 #[.slice a7 out.length c7, .slice a8 out.length c8] w8 (fun e w' => e = .returned (.bool true) ∧ Eqv w8 w') by have h7 := jntexts_any (cap := c7) (cap' := c8) w8 HTX.out HTY.out HOZ.out; rw [decide_eq_true (rfl : out = out)] at h7; exact h7).mono ?_; rintro _ w10 ⟨rfl, k10⟩; have HT := Lib.hid (HT.out.keeps ((Keeps.refl w8).eqv k10)); clear k10) | (go_at_call 14; (with_reducible refine (A.held HT.out.a).mono ?_); rintro _ w11 ⟨rfl, k11⟩; have HT := Lib.hid (HT.out.keeps k11); clear k11) | (go_at_call 14; (with_reducible refine (A.held HT.out.b).mono ?_); rintro _ w12 ⟨rfl, k12⟩; have HT := Lib.hid (HT.out.keeps k12); clear k12))
          go_roundw
          case rel => exact ⟨k + 1, S7, S8, J', J', by omega, by go_num, HT.out, ⟨_, _, HGO.out⟩, HFH.out, .inr ⟨by omega, rfl⟩⟩
          case measure => simp [intOf]; omega
        · obtain ⟨_, rfl⟩ : (k : Int) ≤ drop ∧ K = js0 := hcase.elim id fun x => absurd (by omega) x.1
          have hd1 : ((k : Int) == drop) = false := by rw [beq_eq_false_iff_ne]; omega
          obtain ⟨b', r', go', hla, he0, _, _, _⟩ := JnGo.step hgo HSO.out (by rw [HB.out]; exact HSZ.out) (by rw [HB.out]; exact hkB)
          simp only [HB.out] at go' hla he0
          rw [hP] at go' hla he0
          have hfh := feed_hold (pid := 17) P hh
          have hfo := feed_outs (pid := 17) (J := J) P
          obtain ⟨⟨J', out, e'⟩, hQ⟩ : ∃ Q, Jn.feed 17 J P = Q := ⟨_, rfl⟩
          rw [hQ] at go' hla he0 hfh hfo
          dsimp only at go' hla he0 hfh hfo
          subst he0
          have HFD := Lib.hid (fun (c : Nat) (S : Nat → Prop) (W : World) (h : A.At S c 17 J W) (kk : Keeps w W) => A.feed P h (HOK.out W kk) hPz (by omega) ⟨by rw [hgo.lost]; exact Int.le_refl _, by rw [hgo.lost]; decide⟩)
          unfold JnGoes at HFD
          rw [hQ] at HFD
          dsimp only at HFD
          have HOZ := Lib.hid (show out.length ≤ 1000000000 by omega)
          have HGO := Lib.hid go'
          have HFH := Lib.hid hfh
          obtain ⟨pi, start, count, bad, body⟩ := P
          clear hP hPz go' hla hfh hfo hQ hgo hcase hh hk
          go_wp2_with (first | (refine wp_ldP (b := bu) (off := off + k * 5) (HR.out _ HT.out.f) rfl _ rfl rfl ?_) | (go_at_call 10; (with_reducible refine (HFD.out p _ _ HT.out.a (HT.out.f.keeps HK3.out HS0.out)).mono ?_); rintro _ w7 ⟨a7, c7, S7, rfl, t7, _, at7, f7, g7, x7⟩; have HTX := Lib.hid t7; have HX7 := Lib.hid x7; have HTP := HT; have HT := Lib.hid (HT.out.fa at7 f7 g7); clear t7 at7 f7 g7 x7))
          go_roundw
          case rel => exact ⟨k + 1, S7, Sb, J', js0, by omega, by go_num, HT.out, ⟨_, _, HGO.out⟩, HFH.out, .inl ⟨by omega, rfl⟩⟩
          case measure => simp [intOf]; omega
        · obtain ⟨_, rfl⟩ : ¬ (k : Int) ≤ drop ∧ J = K := hcase.elim (fun x => absurd x.1 (by omega)) fun x => ⟨x.1, x.2.symm⟩
          have hd1 : ((k : Int) == drop) = false := by rw [beq_eq_false_iff_ne]; omega
          have hd2 : ¬ (k : Int) < drop := by omega
          obtain ⟨b', r', go', hla, he0, _, _, _⟩ := JnGo.step hgo HSO.out (by rw [HB.out]; exact HSZ.out) (by rw [HB.out]; exact hkB)
          simp only [HB.out] at go' hla he0
          rw [hP] at go' hla he0
          have hfh := feed_hold (pid := 17) P hh
          have hfo := feed_outs (pid := 17) (J := J) P
          obtain ⟨⟨J', out, e'⟩, hQ⟩ : ∃ Q, Jn.feed 17 J P = Q := ⟨_, rfl⟩
          rw [hQ] at go' hla he0 hfh hfo
          dsimp only at go' hla he0 hfh hfo
          subst he0
          have HFD := Lib.hid (fun (c : Nat) (S : Nat → Prop) (W : World) (h : A.At S c 17 J W) (kk : Keeps w W) => A.feed P h (HOK.out W kk) hPz (by omega) ⟨by rw [hgo.lost]; exact Int.le_refl _, by rw [hgo.lost]; decide⟩)
          unfold JnGoes at HFD
          rw [hQ] at HFD
          dsimp only at HFD
          have HOZ := Lib.hid (show out.length ≤ 1000000000 by omega)
          have HGO := Lib.hid go'
          have HFH := Lib.hid hfh
          obtain ⟨pi, start, count, bad, body⟩ := P
          clear hP hPz go' hla hfh hfo hQ hgo hcase hh hk
          by_cases hd3 : 0 ≤ drop
          · go_wp2_with (first | (refine wp_ldP (b := bu) (off := off + k * 5) (HR.out _ HT.out.f) rfl _ rfl rfl ?_) | (go_at_call 10; (with_reducible refine (HFD.out q _ _ HT.out.b (HT.out.f.keeps HK3.out HS0.out)).mono ?_); rintro _ w8 ⟨a8, c8, S8, rfl, t8, _, at8, f8, g8, x8⟩; have HTY := Lib.hid t8; have HTX := Lib.hid (HTX.out.foot f8 (fun x hx hb => by have h1 := (HX7.out x hx).2; have h2 := A.old HTP.out.b x.block hb; omega)); have HT := Lib.hid (HT.out.fb at8 f8 g8); clear t8 at8 f8 g8 x8 HR) | (go_at_call 10; (with_reducible refine (HFD.out p _ _ HT.out.a (HT.out.f.keeps HK3.out HS0.out)).mono ?_); rintro _ w7 ⟨a7, c7, S7, rfl, t7, _, at7, f7, g7, x7⟩; have HTX := Lib.hid t7; have HX7 := Lib.hid x7; have HTP := HT; have HT := Lib.hid (HT.out.fa at7 f7 g7); clear t7 at7 f7 g7 x7) | (go_at_call 13; refine (show Calls Tryd.prog 13 #[.slice a7 out.length c7, .slice a8 out.length c8] w8 (fun e w' => e = .returned (.bool true) ∧ Eqv w8 w') by have h7 := jntexts_any (cap := c7) (cap' := c8) w8 HTX.out HTY.out HOZ.out; rw [decide_eq_true (rfl : out = out)] at h7; exact h7).mono ?_; rintro _ w10 ⟨rfl, k10⟩; have HT := Lib.hid (HT.out.keeps ((Keeps.refl w8).eqv k10)); clear k10) | (go_at_call 14; (with_reducible refine (A.held HT.out.a).mono ?_); rintro _ w11 ⟨rfl, k11⟩; have HT := Lib.hid (HT.out.keeps k11); clear k11) | (go_at_call 14; (with_reducible refine (A.held HT.out.b).mono ?_); rintro _ w12 ⟨rfl, k12⟩; have HT := Lib.hid (HT.out.keeps k12); clear k12))
            go_roundw
            case rel => exact ⟨k + 1, S7, S8, J', J', by omega, by go_num, HT.out, ⟨_, _, HGO.out⟩, HFH.out, .inr ⟨by omega, rfl⟩⟩
            case measure => simp [intOf]; omega
          · have hd4 : drop < 0 := by omega
            clear hd hd3 hd2
            have hd2 : decide ((k : Int) < drop) = false := decide_eq_false (by omega)
            have hd3 : decide ((0 : Int) ≤ drop) = false := decide_eq_false (by omega)
            clear hd4
            go_wp2_with (first | (refine wp_ldP (b := bu) (off := off + k * 5) (HR.out _ HT.out.f) rfl _ rfl rfl ?_) | (go_at_call 10; (with_reducible refine (HFD.out q _ _ HT.out.b (HT.out.f.keeps HK3.out HS0.out)).mono ?_); rintro _ w8 ⟨a8, c8, S8, rfl, t8, _, at8, f8, g8, x8⟩; have HTY := Lib.hid t8; have HTX := Lib.hid (HTX.out.foot f8 (fun x hx hb => by have h1 := (HX7.out x hx).2; have h2 := A.old HTP.out.b x.block hb; omega)); have HT := Lib.hid (HT.out.fb at8 f8 g8); clear t8 at8 f8 g8 x8 HR) | (go_at_call 10; (with_reducible refine (HFD.out p _ _ HT.out.a (HT.out.f.keeps HK3.out HS0.out)).mono ?_); rintro _ w7 ⟨a7, c7, S7, rfl, t7, _, at7, f7, g7, x7⟩; have HTX := Lib.hid t7; have HX7 := Lib.hid x7; have HTP := HT; have HT := Lib.hid (HT.out.fa at7 f7 g7); clear t7 at7 f7 g7 x7))
            go_roundw
            case rel => exact ⟨k + 1, S7, S8, J', J', by omega, by go_num, HT.out, ⟨_, _, HGO.out⟩, HFH.out, .inr ⟨by omega, rfl⟩⟩
            case measure => simp [intOf]; omega
      · have hlI : ¬ (k : Int) < (N : Int) := by omega
        have hKl : K.lost = 0 := hcase.elim (fun x => by rw [x.2]; rfl) (fun x => by rw [x.2]; exact hgo.lost)
        have hJl := hgo.lost
        have HLA := Lib.hid (fun (S : Nat → Prop) (W : World) (h : A.At S p 17 J W) => show Calls Tryd.prog 15 #[.pointer (some ⟨p, 0, none⟩)] W fun e w' => e = .returned (.int .i64 0) ∧ Keeps W w' by have := A.lost h; rwa [hJl] at this)
        have HLB := Lib.hid (fun (S : Nat → Prop) (W : World) (h : A.At S q 17 K W) => show Calls Tryd.prog 15 #[.pointer (some ⟨q, 0, none⟩)] W fun e w' => e = .returned (.int .i64 0) ∧ Keeps W w' by have := A.lost h; rwa [hKl] at this)
        clear hgo hcase hh hk hKl hJl
        go_wp2_with (first | (go_at_call 15; (with_reducible refine (HLA.out _ _ HT.out.a).mono ?_); rintro _ w13 ⟨rfl, k13⟩; have HT := Lib.hid (HT.out.keeps k13); clear k13) | (go_at_call 15; (with_reducible refine (HLB.out _ _ HT.out.b).mono ?_); rintro _ w14 ⟨rfl, k14⟩; have HT := Lib.hid (HT.out.keeps k14); clear k14) | (go_at_call 9; refine (HW.out _ (HT.out.f.keeps HK3.out HS0.out)).mono ?_; rintro _ w9 ⟨rfl, k9⟩; have HT := Lib.hid (HT.out.keeps k9); clear k9))
        go_ret
        exact ⟨rfl, (HT.out.f.keeps HK3.out HS0.out)⟩
theorem walk (a : Option Addr) (len cap : Nat) (L : List (List UInt8)) (w : World) (hI0 : IsT w a len L ∧ len ≤ cap ∧ len ≤ maxLen ∧ (a = none → len = 0 ∧ cap = 0)) (drop : Int) (hdw : (Lit.int .i64 drop).wf = true) (hW : Wd w) :
    Calls Tryd.prog 7 #[.slice a len cap, .int .i64 drop] w fun e w' => e = .returned (.bool true) ∧ Below w.heap.size w w' :=
  core joinerApi a len cap L w hI0.1 hI0.2.2.1 drop hdw hW

theorem own : ownKnob Tryd.prog.godebug = none := by kernel_rfl
theorem laidOut : laidOutB Tryd.prog = true := by kernel_rfl
set_option maxRecDepth 100000 in
theorem lifted (os : Os) (started : os.Started) (H : Type) (enc : TypeId × Value → H) :
    ReturnsInHanded {} Tryd.checked os 7 .any (fun w args => (Rows.joinerDropsSpec.pre enc Tryd.prog Tryd.f7 [] false w args ∧ laidMetH Tryd.prog [("clarion/packet.wide", Rows.laid_clarion_packet_wide)] w) ∧ sizedMet enc Tryd.prog Tryd.f7 (OpenSpec.ofChange Rows.joinerDropsSpec) false w args) (Rows.joinerDropsSpec.post enc Tryd.prog Tryd.f7 false true false false) := by
  refine returnsInHanded_of_change_and (C := Tryd.checked) (X := fun w _ => laidMetH Tryd.prog [("clarion/packet.wide", Rows.laid_clarion_packet_wide)] w) (fun _ _ _ hh h => h.of_heap hh) own started (by kernel_rfl) Tryd.func7
    (ChangeSpec.witness_shaped (enc := enc) (C := Tryd.checked) (os := os) (X := fun w _ => laidMetH Tryd.prog [("clarion/packet.wide", Rows.laid_clarion_packet_wide)] w) false (World.doorLaid Tryd.prog 400 os) #[.slice none 0 0, .int .i64 0] 8 rfl (World.shaped_of_RefB (by kernel_rfl) (by kernel_rfl)) (by kernel_rfl) (by kernel_rfl) (by kernel_rfl) (door_met os _)) ?_
  intro W base args ds gs before hval0 hW hcnd _ hL _
  have hval : ∀ (j : Nat) t v, Tryd.f7.params[j]? = some t → args[j]? = some v → Value.okWide Tryd.prog W .any base t v := hval0
  have hW' := hW
  obtain ⟨p, q, hA0, hV, rfl, hfz, hnd⟩ := hW
  have hA : DataW.TrodAll enc Tryd.prog W 0 (fun _ => true) true Tryd.f7.params.toList args.toList ds p := hA0
  rw [Tryd.params7] at hA hval
  obtain ⟨v0, vs0, d0, ds0, p0, q0, hargs, rfl, rfl, h0, r0⟩ := trodAll_cons hA
  obtain ⟨v1, vs1, d1, ds1, p1, q1, rfl, rfl, rfl, h1, r1⟩ := trodAll_cons r0
  obtain ⟨rfl, rfl, rfl⟩ := trodAll_nil r1
  obtain rfl : args = #[v0, v1] := by cases args; simp_all
  obtain ⟨rfl, rfl⟩ := trodVars_none hV
  obtain ⟨a0, len0, cap0, rfl⟩ := okWide_slice Tryd.underlying33 (hval 0 33 v0 rfl rfl)
  have k0 := h0
  have lt0 : ∀ x ∈ p0, x.block < W.heap.size := by obtain ⟨m, hm⟩ := k0; exact DataW.trod_lt m _ _ _ hm
  obtain ⟨z0, w0⟩ := open_trow2 h0
  obtain ⟨a1, rfl, rfl, rfl, w1⟩ := open_int Tryd.underlying3 (hval 1 3 v1 rfl rfl) h1
  clear hA0 hval0
  refine (walk a0 len0 cap0 z0 W w0 a1 w1 (wd_of_laid hL)).mono fun e W' ⟨he, bel⟩ => ?_
  subst he
  exact ⟨_, rfl, _, _, _, [], _, [], hW', trodAll_mk1 (shut_bool Tryd.underlying4 _), (trodAll_cons_mk (Below.trod laidOut (by kernel_rfl) (of_decide_eq_true (by kernel_rfl)) k0 bel lt0) (trodAll_cons_mk (shut_int Tryd.underlying3 w1) trodAll_mk0)), rfl, bel.frame _, fun h => by cases h⟩

theorem over : Rows.joinerDropsRow.holds Tryd.pinned (OpenSpec.ofChange Rows.joinerDropsSpec) :=
  OpenClaim.holds_of_wide 7 Tryd.f7 rfl rfl rfl rfl rfl rfl rfl ⟨rfl, rfl, rfl, rfl, rfl⟩ rfl rfl rfl rfl rfl (by kernel_rfl) Tryd.func7 (by kernel_rfl)
    (of_decide_eq_true (by kernel_rfl)) (by unfold Func.isWrapper; first | (rw [if_pos (by decide +kernel)]; kernel_rfl) | (rw [if_neg (by decide +kernel)]; exact ⟨rfl, rfl⟩))
    (fun os started H enc _ => lifted os started H enc)

set_option maxRecDepth 100000 in
theorem proved : Rows.JoinerDropsCardSaid :=
  Claim7.holds_tied_plain_at .later [] [.data] true (true, _) false over (fun _ h => by cases h) (by kernel_rfl) (fun _ h => by cases h) joinerDrops_row_tie rfl ⟨rfl, rfl⟩ (by kernel_rfl) rfl
    (fun f fn hf hfn => by
      obtain rfl : f = 7 := Option.some.inj ((show Tryd.prog.funcNamed "clarion/clarionlaw16.JoinerDrops" = some 7 by kernel_rfl).symm.trans hf) |>.symm
      obtain rfl : fn = Tryd.f7 := (Option.some.inj (Tryd.func7.symm.trans hfn)).symm
      exact ⟨by kernel_rfl, fun j t ht => by
        rw [Tryd.params7] at ht
        have hm : t ∈ [33, 3] := by simpa using Array.mem_of_getElem? ht
        have hall : ([33, 3].all fun u => !Tryd.prog.wantsStandIn u) = true := by kernel_rfl
        exact (show Tryd.prog.wantsStandIn t = false by simpa using List.all_eq_true.1 hall t hm)⟩)
    (by kernel_rfl)
#print axioms proved
end Go.Proofs.YtifbomppgflkfaaDoor.joinerDrops
