/-
  For any bodies, any count and any places JoinerBack returns true: of the packets that sections were packed into these sections are answered, in order; a packet that comes twice does not count, nor do those of other streams; nothing that was there is changed. The table of widths of package packet starts as the program lays it.
-/
import Derived.SevenTiedAt
import Derived.Test.YtifbomppgflkfaaDoorRows
import Derived.Test.YtifbomppgflkfaaDoorCards
import Derived.Test.YtifbomppgflkfaaDoorTie
import Derived.Test.YtifbomppgflkfaaDoorPkLaid
import Derived.Test.YtifbomppgflkfaaDoorJnImp
import Derived.Test.YtifbomppgflkfaaDoorJnTwo
namespace Go.Proofs.YtifbomppgflkfaaDoor.joinerBack
open Go.ChangeShapes Go.WideShapes Go.ChangeAt Go.RowKit Gf Pk Pr Jn
set_option maxRecDepth 100000
open Go.ChangeMaps (open_string shut_string)
set_option linter.unusedVariables false
theorem open_trow2 {H : Type} {enc : TypeId × Value → H} {W : World} {base : Nat} {held : Bool} {a : Option Addr} {len cap : Nat} {d : DataW H} {p : List MemPlace}
    (h : DataW.Trod enc Tryd.prog W base (fun _ => true) held 33 (.slice a len cap) d p) : ∃ l, IsT W a len l ∧ len ≤ cap ∧ len ≤ maxLen ∧ (a = none → len = 0 ∧ cap = 0) := by
  obtain ⟨l, h1, h2⟩ := open_trow h
  refine ⟨l, h1, h2, ?_⟩
  obtain ⟨fuel, hf⟩ := h
  rcases DataW.trod_slice Tryd.underlying33 hf with ⟨hcs, _⟩ | ⟨x, ln, cp, elems, rest, m, _, hcs, _, _, hlc, hlm, _⟩
  · simp [Value.cells] at hcs
    obtain ⟨rfl, rfl, rfl⟩ := hcs
    exact ⟨by decide, fun _ => ⟨rfl, rfl⟩⟩
  · simp [Value.cells] at hcs
    obtain ⟨rfl, rfl, rfl⟩ := hcs
    exact ⟨Nat.le_trans hlc hlm, fun e => (by cases e)⟩
def jbRel (A : JnApi) (S0 : Nat → Prop) (wL : World) (M : List (List UInt8)) (count : Int) (p N : Nat) (vg i : Value) (wr : World) : Prop :=
  ∃ (k b r : Nat) (S : Nat → Prop) (J : JS), k ≤ N ∧ i = .int .i64 (k : Int) ∧ One16 A S0 wL p S J wr ∧ JnGo count M k b r J ∧ J.hold.length < 4096 ∧ (J.fol = true ∨ r = 0) ∧ OwnE rowT wr wL.heap.size vg (M.take (dn b r)) ∧ ∀ g, vg.ownBlock = some g → ¬ S g
def jiRel (A : JnApi) (S0 : Nat → Prop) (wL : World) (p n : Nat) (J : JS) (vg : Value) (G : List (List UInt8)) (i : Value) (wr : World) : Prop :=
  ∃ (c : Nat) (S : Nat → Prop), c ≤ n ∧ i = .int .i64 (c : Int) ∧ One16 A S0 wL p S J wr ∧ OwnE rowT wr wL.heap.size vg G ∧ ∀ g, vg.ownBlock = some g → ¬ S g
theorem open_irow {H : Type} {enc : TypeId × Value → H} {W : World} {base : Nat} {held : Bool} {a : Option Addr} {len cap : Nat} {d : DataW H} {p : List MemPlace}
    (h : DataW.Trod enc Tryd.prog W base (fun _ => true) held 47 (.slice a len cap) d p) : ∃ l, IsE rowZ W a len l ∧ len ≤ maxLen :=
  open_rowE rowZ (by kernel_rfl) (fun _ _ _ _ hf => by obtain ⟨x, e, _⟩ := DataW.trod_int Tryd.underlying3 hf; exact ⟨x, e⟩) h
theorem z_get {W : World} {a : Option Addr} {len : Nat} {m : List Int} (h : IsE rowZ W a len m) {i : Nat} (hi : i < m.length) : ∃ b off, a = some ⟨b, off, none⟩ ∧ ∀ W', Keeps W W' → W'.cell? ⟨b, off + i, none⟩ = some (.int .i64 m[i]) := by
  obtain ⟨b, off, ha, hb, hc⟩ := h.get hi
  refine ⟨b, off, ha, fun W' k => ?_⟩
  have := (Below.cell k (p := ⟨b, off + (i * 1 + 0), none⟩) hb).trans (hc 0 _ rfl)
  rwa [Nat.mul_one, Nat.add_zero] at this
theorem take_more (M : List (List UInt8)) {n n' : Nat} (h : n ≤ n') : M.take n ++ (M.take n').drop n = M.take n' := by
  conv => rhs; rw [← List.take_append_drop n (M.take n'), List.take_take, Nat.min_eq_left h]
set_option maxHeartbeats 12800000 in
theorem core (A : JnApi) (a : Option Addr) (len cap : Nat) (L : List (List UInt8)) (w : World) (hI : IsT w a len L) (hlm : len ≤ maxLen) (count : Int) (am : Option Addr) (lem capm : Nat) (m : List Int) (hJ : IsE rowZ w am lem m) (hjm : lem ≤ maxLen) (hO : A.Ok w) :
    Calls Tryd.prog 5 #[.slice a len cap, .int .i64 count, .slice am lem capm] w fun e w' => e = .returned (.bool true) ∧ Below w.heap.size w w' := by
  have HW := Lib.hid (fun W (k : Keeps w W) => awake16_any A W W (Keeps.refl W) (A.okK hO k))
  have HFE := Lib.hid (jnfew_any (cap := cap) w hI hlm)
  have HK := Lib.hid (Keeps.refl w)
  obtain ⟨F, hF⟩ : ∃ F, fewJ L = F := ⟨_, rfl⟩
  rw [hF] at HFE
  cases F with
  | false =>
    clear hF hI hJ
    go_enter Tryd.func5, Tryd.ntmps5
    go_wp2_with (first | (go_at_call 19; refine HFE.out.mono ?_; rintro _ w1 ⟨rfl, rfl⟩) | (go_at_call 9; refine (HW.out _ HK.out).mono ?_; rintro _ w9 ⟨rfl, k9⟩; have HK := Lib.hid (HK.out.trans k9); clear k9))
    go_ret
    exact ⟨rfl, HK.out⟩
  | true =>
  by_cases c1 : count < 0
  · clear hF hI hJ
    go_enter Tryd.func5, Tryd.ntmps5
    go_wp2_with (first | (go_at_call 19; refine HFE.out.mono ?_; rintro _ w1 ⟨rfl, rfl⟩) | (go_at_call 9; refine (HW.out _ HK.out).mono ?_; rintro _ w9 ⟨rfl, k9⟩; have HK := Lib.hid (HK.out.trans k9); clear k9))
    go_ret
    exact ⟨rfl, HK.out⟩
  by_cases c2 : 15 < count
  · clear hF hI hJ
    go_enter Tryd.func5, Tryd.ntmps5
    go_wp2_with (first | (go_at_call 19; refine HFE.out.mono ?_; rintro _ w1 ⟨rfl, rfl⟩) | (go_at_call 9; refine (HW.out _ HK.out).mono ?_; rintro _ w9 ⟨rfl, k9⟩; have HK := Lib.hid (HK.out.trans k9); clear k9))
    go_ret
    exact ⟨rfl, HK.out⟩
  by_cases c3 : 100 < lem
  · have c3i : (100 : Int) < (lem : Int) := by omega
    clear hF hI hJ
    go_enter Tryd.func5, Tryd.ntmps5
    go_wp2_with (first | (go_at_call 19; refine HFE.out.mono ?_; rintro _ w1 ⟨rfl, rfl⟩) | (go_at_call 9; refine (HW.out _ HK.out).mono ?_; rintro _ w9 ⟨rfl, k9⟩; have HK := Lib.hid (HK.out.trans k9); clear k9))
    go_ret
    exact ⟨rfl, HK.out⟩
  have c3i : ¬ (100 : Int) < (lem : Int) := by omega
  obtain ⟨hz, hn⟩ := fewJ_iff hF
  have HOK := Lib.hid (fun W (k : Keeps w W) => A.okK hO k)
  have HN := Lib.hid (fun W => A.newOk 17 W (by decide))
  have HPK := Lib.hid (fun W (k : Keeps w W) => jnpacked_any (cap := cap) W count (hI.keeps k) hz hn ⟨by omega, by omega⟩)
  have HSO := Lib.hid (secsB_ok hz)
  have HSZ := Lib.hid (secsB_sizes hz)
  have HBN := Lib.hid (secsB_bodies hz hn)
  have hml := secsB_length L
  obtain ⟨M, hM⟩ : ∃ M, secsB L = M := ⟨_, rfl⟩
  rw [hM] at HPK HSO HSZ HBN hml
  obtain ⟨B, hB⟩ : ∃ B, bodies M = B := ⟨_, rfl⟩
  rw [hB] at HPK HSZ HBN
  obtain ⟨N, hNN⟩ : ∃ N, B.length = N := ⟨_, rfl⟩
  rw [hNN] at HPK HBN
  have HML := Lib.hid (show M.length ≤ 20 by omega)
  have HB := Lib.hid hB
  have HNN := Lib.hid hNN
  have HCN := Lib.hid (show 0 ≤ count ∧ count ≤ 15 by omega)
  have HJ := Lib.hid hJ
  have HJL := Lib.hid hJ.1
  have hlb : lem ≤ 100 := by omega
  clear hF hI hz hn hM hB hNN hml hJ hjm
  go_enter Tryd.func5, Tryd.ntmps5
  go_wp2_with (first | (go_at_call 19; refine HFE.out.mono ?_; rintro _ w1 ⟨rfl, rfl⟩) | (go_at_call 8; refine (HN.out w).mono ?_; rintro _ w1 ⟨p, S0, rfl, a1, k1, s1⟩; have HA1 := Lib.hid a1; have HK1 := Lib.hid k1; have HS0 := Lib.hid s1; clear a1 k1 s1) | (go_at_call 20; refine (HPK.out _ HK1.out).mono ?_; rintro _ w2 ⟨v, u, rfl, ov, ou, k2⟩; have HU := Lib.hid ou; have HV := Lib.hid ov; have HC2 := Lib.hid k2; clear ov ou k2))
  obtain ⟨au, cu, hu, hiu, hbu⟩ := HU.out.row16
  rw [pkF_length] at hu hiu
  subst hu
  obtain ⟨av, cv, hv, hiv, hbv⟩ := HV.out.row16
  subst hv
  have HIU := Lib.hid hiu
  have HIV := Lib.hid hiv.texts
  have HK3 := Lib.hid (HK1.out.trans HC2.out)
  have HBU := Lib.hid (show ∀ x, au = some x → ¬ S0 x.block from fun x hx hs => by have h1 := hbu x hx; have := A.old HA1.out x.block hs; omega)
  have HBV := Lib.hid (show ∀ x, av = some x → ¬ S0 x.block from fun x hx hs => by have h1 := hbv x hx; have := A.old HA1.out x.block hs; omega)
  have HT0 := Lib.hid (show One16 A S0 w2 p S0 js0 w2 from ⟨A.foot HA1.out (HC2.out.foot (fun _ => False)) (fun _ _ x => x), Foot.refl _ _, Grew.refl _ _⟩)
  clear hiu hbu hiv hbv
  go_loopw [11, 12] (fun vg i wr => jbRel A S0 w2 M count p N vg i wr) (fun _ i _ => N - (intOf i).toNat)
  case atStart => exact ⟨0, 0, 0, S0, js0, Nat.zero_le _, rfl, HT0.out, JnGo.start count M, by decide, .inr rfl, OwnE.nil _ _, fun g hg => by cases hg⟩
  case round =>
    obtain ⟨k, bb, rr, S, J, hk, rfl, h2, hgo, hh, hfr, hog, hgs⟩ := hrel
    have HT := Lib.hid h2
    have HG := Lib.hid hog
    have HGS := Lib.hid hgs
    have hnb := HBN.out
    clear h2 hog hgs
    by_cases hlt : k < N
    · have hlI : (k : Int) < (N : Int) := by omega
      have hkB : k < B.length := by rw [HNN.out]; exact hlt
      obtain ⟨bu, off, rfl, hrg⟩ := pk16_range HIU.out HBU.out (i := k) (by rw [pkF_length]; exact hlt)
      have hPg : (pkF count B N)[k]'(by rw [pkF_length]; exact hlt) = bdP count B[k] k := by
        have h1 := pkF_get (count := count) hlt hkB
        rw [List.getElem?_eq_getElem (by rw [pkF_length]; exact hlt)] at h1
        exact Option.some.inj h1
      rw [hPg] at hrg
      have hPz : (bdP count B[k] k).body.size ≤ 1000 := by
        have := (HSZ.out _ (List.getElem_mem hkB)).2
        show (st B[k].2).size ≤ 1000
        rw [st_size]; omega
      have hPk : ckP (bdP count B[k] k) = 0 := bdP_ck (HSZ.out _ (List.getElem_mem hkB)).2
      have hPp : (bdP count B[k] k).pid = 17 := rfl
      have hPc : (bdP count B[k] k).count = (count + (k : Int)) % 16 := rfl
      have hPb : ls (bdP count B[k] k).body = B[k].2 := ls_st _
      have wr1 := wrapI (a := (k : Int) + 1) (by omega) (by omega)
      obtain ⟨b', r', go', hla, he0, hdn, hdl, hst⟩ := JnGo.step hgo HSO.out (by rw [HB.out]; exact HSZ.out) (by rw [HB.out]; exact hkB)
      simp only [HB.out] at go' hla he0 hst
      rw [← hPc, ← hPb] at hla
      obtain ⟨P, hP⟩ : ∃ P, bdP count B[k] k = P := ⟨_, rfl⟩
      rw [hP] at hrg hPz hPk hPp go' hla he0 hst
      have HR := Lib.hid hrg
      obtain ⟨hfr', hout⟩ := hst hfr
      have hfh := feed_hold (pid := 17) P hh
      obtain ⟨⟨J', out, e'⟩, hQ⟩ : ∃ Q, Jn.feed 17 J P = Q := ⟨_, rfl⟩
      rw [hQ] at go' hla he0 hfh hfr' hout
      dsimp only at go' hla he0 hfh hfr' hout
      subst he0
      have HFD := Lib.hid (fun (S : Nat → Prop) (W : World) (h : A.At S p 17 J W) (kk : Keeps w W) => A.feed P h (HOK.out W kk) hPz (by omega) ⟨by rw [hgo.lost]; exact Int.le_refl _, by rw [hgo.lost]; decide⟩)
      unfold JnGoes at HFD
      rw [hQ] at HFD
      dsimp only at HFD
      have htw := feed_twice hPk hPp hla
      have HFT := Lib.hid (fun (S : Nat → Prop) (W : World) (h : A.At S p 17 J' W) (kk : Keeps w W) => A.feed P h (HOK.out W kk) hPz (by omega) ⟨by rw [go'.lost]; exact Int.le_refl _, by rw [go'.lost]; decide⟩)
      unfold JnGoes at HFT
      rw [htw] at HFT
      dsimp only [List.length_nil] at HFT
      have hot : Jn.feed 17 J' ⟨18, true, 5, false, ⟨#[0, 97, 98, 99]⟩⟩ = (J', [], 14) := feed_other (by decide) (by decide)
      have HFO := Lib.hid (fun (S : Nat → Prop) (W : World) (h : A.At S p 17 J' W) (kk : Keeps w W) => A.feed ⟨18, true, 5, false, ⟨#[0, 97, 98, 99]⟩⟩ h (HOK.out W kk) (show 4 ≤ 1000 by decide) (by omega) ⟨by rw [go'.lost]; exact Int.le_refl _, by rw [go'.lost]; decide⟩)
      unfold JnGoes at HFO
      rw [hot] at HFO
      dsimp only [List.length_nil] at HFO
      have HMG := Lib.hid (show M.take (dn bb rr) ++ out = M.take (dn b' r') by rw [hout]; exact take_more M hdn)
      have HLG := Lib.hid (show (M.take (dn bb rr)).length = min (dn bb rr) M.length from List.length_take ..)
      have HOZ := Lib.hid (show out.length ≤ 20 ∧ min (dn bb rr) M.length ≤ 20 by rw [hout, List.length_drop, List.length_take]; have := HML.out; omega)
      have HHD := Lib.hid (fun (S : Nat → Prop) (W : World) (h : A.At S p 17 J' W) => A.held h)
      obtain ⟨Hs, hHs⟩ : ∃ Hs, st J'.hold = Hs := ⟨_, rfl⟩
      rw [hHs] at HHD
      have hHz : ¬ (4096 : Int) ≤ (Hs.size : Int) := by rw [← hHs, st_size]; omega
      have HGO := Lib.hid go'
      have HFH := Lib.hid hfh
      have HFR := Lib.hid hfr'
      obtain ⟨G, hG⟩ : ∃ G, M.take (dn bb rr) = G := ⟨_, rfl⟩
      rw [hG] at HG HMG HLG
      obtain ⟨pi, start, cnt, bad, body⟩ := P
      clear hrg hPg hPz hPk hPp hPc hPb go' hla hfr hfr' hout hfh hQ htw hot hdn hdl hst hP hgo hh hHs hG
      go_wp2_with (first | (refine wp_ldP (b := bu) (off := off + k * 5) (HR.out _ HT.out.f) rfl _ rfl rfl ?_) | (go_at_call 10; (with_reducible refine (HFD.out _ _ HT.out.a (HT.out.f.keeps HK3.out HS0.out)).mono ?_); rintro _ w7 ⟨a7, c7, S7, rfl, t7, _, at7, f7, g7, x7⟩; have HTX := Lib.hid t7; have HG7 := Lib.hid (HG.out.foot f7 (fun g hg => HGS.out g hg)); have HGS7 := Lib.hid (show ∀ g, u11.ownBlock = some g → ¬ S7 g from fun g hg hs => (g7 g hs).elim (fun y => HGS.out g hg y) (fun y => by have := HG.out.old hg; omega)); have HT7 := Lib.hid (HT.out.go at7 f7 g7); have HGB := Lib.hid HG.out.block; clear t7 at7 f7 g7 x7) | (at_builtin; refine wp_cat16 rfl _ _ rfl HG7.out rfl rfl HTX.out (by rw [HLG.out]; have := HOZ.out; omega) HT7.out.f.size ?_; intro v8 w8 o8 g8 at8; have HG8 := Lib.hid o8; have HT8 := Lib.hid (HT7.out.grown g8 (fun b hb => ⟨HGS7.out b hb, HGB.out b hb⟩)); have HGS8 := Lib.hid (show ∀ g, v8.ownBlock = some g → ¬ S7 g from fun g hg hs => at8.elim (fun e => HGS7.out g (by rw [← e]; exact hg) hs) (fun e => by rw [e] at hg; cases hg; have := A.old HT7.out.a _ hs; omega)); clear o8 g8 at8) | (go_at_call 14; (with_reducible refine (HHD.out _ _ HT8.out.a).mono ?_); rintro _ w11 ⟨rfl, k11⟩; have HT9 := Lib.hid (HT8.out.keeps k11); have HG9 := Lib.hid (HG8.out.keeps k11); clear k11))
      have HGM := Lib.hid (show OwnE rowT w11 w2.heap.size v8 (M.take (dn b' r')) by rw [← HMG.out]; exact HG9.out)
      have hlm2 : lem = m.length := HJL.out
      go_loopw [15] (fun i wr => jiRel A S0 w2 p lem J' v8 (M.take (dn b' r')) i wr) (fun i _ => lem - (intOf i).toNat)
      case atStart => exact ⟨0, S7, Nat.zero_le _, rfl, HT9.out, HGM.out, HGS8.out⟩
      case round =>
        obtain ⟨c, S, hc, rfl, h2, hog, hgs⟩ := hrel
        have HT := Lib.hid h2
        have HG := Lib.hid hog
        have HGS := Lib.hid hgs
        clear h2 hog hgs
        by_cases hlt2 : c < lem
        · have hlI2 : (c : Int) < (lem : Int) := by omega
          have hcm : c < m.length := by omega
          have wr2 := wrapI (a := (c : Int) + 1) (by omega) (by omega)
          obtain ⟨bm, om, rfl, hcell⟩ := z_get HJ.out hcm
          have hc1 := hcell _ (HT.out.f.keeps HK3.out HS0.out)
          obtain ⟨x, hx⟩ : ∃ x, m[c] = x := ⟨_, rfl⟩
          rw [hx] at hc1
          clear hx hcell hcm
          by_cases hxk : x = (k : Int)
          · subst hxk
            clear hlm2
            go_wp2_with (first | (refine wp_ldP (b := bu) (off := off + k * 5) (HR.out _ HT.out.f) rfl _ rfl rfl ?_) | (go_at_call 10; (with_reducible refine (HFT.out _ _ HT.out.a (HT.out.f.keeps HK3.out HS0.out)).mono ?_); rintro _ w12 ⟨a12, c12, S12, rfl, _, _, at12, f12, g12, _⟩; have HGo := HG; have HG := Lib.hid (HG.out.foot f12 (fun g hg => HGS.out g hg)); have HGS := Lib.hid (show ∀ g, v8.ownBlock = some g → ¬ S12 g from fun g hg hs => (g12 g hs).elim (fun y => HGS.out g hg y) (fun y => by have := HGo.out.old hg; omega)); have HT := Lib.hid (HT.out.go at12 f12 g12); clear at12 f12 g12 HGo) | (go_at_call 10; (with_reducible refine (HFO.out _ _ HT.out.a (HT.out.f.keeps HK3.out HS0.out)).mono ?_); rintro _ w13 ⟨a13, c13, S13, rfl, _, _, at13, f13, g13, _⟩; have HGo := HG; have HG := Lib.hid (HG.out.foot f13 (fun g hg => HGS.out g hg)); have HGS := Lib.hid (show ∀ g, v8.ownBlock = some g → ¬ S13 g from fun g hg hs => (g13 g hs).elim (fun y => HGS.out g hg y) (fun y => by have := HGo.out.old hg; omega)); have HT := Lib.hid (HT.out.go at13 f13 g13); clear at13 f13 g13 HGo))
            go_roundw
            case rel => exact ⟨c + 1, _, hlt2, by go_num, HT.out, HG.out, HGS.out⟩
            case measure => simp [intOf]; omega
          · have hxb : (x == (k : Int)) = false := by rw [beq_eq_false_iff_ne]; exact hxk
            clear hlm2
            go_wp2
            go_roundw
            case rel => exact ⟨c + 1, S, hlt2, by go_num, HT.out, HG.out, HGS.out⟩
            case measure => simp [intOf]; omega
        · have hlI2 : ¬ (c : Int) < (lem : Int) := by omega
          clear hlm2
          go_wp2
          go_roundw
          case rel => exact ⟨k + 1, b', r', S, J', hlt, by go_num, HT.out, HGO.out, HFH.out, HFR.out, HG.out, HGS.out⟩
          case measure => simp [intOf]; omega
    · have hlI : ¬ (k : Int) < (N : Int) := by omega
      obtain ⟨⟨pa, hjs⟩, hlo, _⟩ := hgo
      obtain ⟨hd1, hd2⟩ := hjs.done HSO.out (by rw [HB.out, HNN.out]; omega)
      have HHE := Lib.hid (fun (S : Nat → Prop) (W : World) (h : A.At S p 17 J W) => show Calls Tryd.prog 14 #[.pointer (some ⟨p, 0, none⟩)] W fun e w' => e = .returned (.string ⟨#[]⟩) ∧ Keeps W w' by have := A.held h; rw [hd2] at this; exact this)
      have HLE := Lib.hid (fun (S : Nat → Prop) (W : World) (h : A.At S p 17 J W) => show Calls Tryd.prog 15 #[.pointer (some ⟨p, 0, none⟩)] W fun e w' => e = .returned (.int .i64 0) ∧ Keeps W w' by have := A.lost h; rwa [hlo] at this)
      rw [hd1, List.take_length] at HG
      obtain ⟨ag, cg, hvg, hig, _⟩ := HG.out.is
      subst hvg
      have HGI := Lib.hid hig.texts
      have HTXE := Lib.hid (fun (W : World) (ff : Foot S0 w2 W) (hi : IsT W ag M.length M) => show Calls Tryd.prog 13 #[.slice ag M.length cg, .slice av M.length cv] W (fun e w' => e = .returned (.bool true) ∧ Eqv W w') by
        have h7 := jntexts_any (cap := cg) (cap' := cv) W hi (HIV.out.foot ff HBV.out) (by have := HML.out; omega)
        rw [decide_eq_true (rfl : M = M)] at h7; exact h7)
      clear hjs hlo hd1 hd2 hh hfr hig
      go_wp2_with (first | (go_at_call 13; refine (HTXE.out _ HT.out.f HGI.out).mono ?_; rintro _ w10 ⟨rfl, k10⟩; have HT := Lib.hid (HT.out.keeps ((Keeps.refl _).eqv k10)); clear k10) | (go_at_call 14; (with_reducible refine (HHE.out _ _ HT.out.a).mono ?_); rintro _ w14 ⟨rfl, k14⟩; have HT := Lib.hid (HT.out.keeps k14); clear k14) | (go_at_call 15; (with_reducible refine (HLE.out _ _ HT.out.a).mono ?_); rintro _ w15 ⟨rfl, k15⟩; have HT := Lib.hid (HT.out.keeps k15); clear k15) | (go_at_call 9; refine (HW.out _ (HT.out.f.keeps HK3.out HS0.out)).mono ?_; rintro _ w9 ⟨rfl, k9⟩; have HT := Lib.hid (HT.out.keeps k9); clear k9))
      go_ret
      exact ⟨rfl, (HT.out.f.keeps HK3.out HS0.out)⟩
theorem walk (a : Option Addr) (len cap : Nat) (L : List (List UInt8)) (w : World) (hI0 : IsT w a len L ∧ len ≤ cap ∧ len ≤ maxLen ∧ (a = none → len = 0 ∧ cap = 0)) (count : Int) (hcn : (Lit.int .i64 count).wf = true) (am : Option Addr) (lem capm : Nat) (m : List Int) (_ : World) (hm0 : IsE rowZ w am lem m ∧ lem ≤ maxLen) (hW : Wd w) :
    Calls Tryd.prog 5 #[.slice a len cap, .int .i64 count, .slice am lem capm] w fun e w' => e = .returned (.bool true) ∧ Below w.heap.size w w' :=
  core joinerApi a len cap L w hI0.1 hI0.2.2.1 count am lem capm m hm0.1 hm0.2 hW

theorem own : ownKnob Tryd.prog.godebug = none := by kernel_rfl
theorem laidOut : laidOutB Tryd.prog = true := by kernel_rfl
set_option maxRecDepth 100000 in
theorem lifted (os : Os) (started : os.Started) (H : Type) (enc : TypeId × Value → H) :
    ReturnsInHanded {} Tryd.checked os 5 .any (fun w args => (Rows.joinerBackSpec.pre enc Tryd.prog Tryd.f5 [] false w args ∧ laidMetH Tryd.prog [("clarion/packet.wide", Rows.laid_clarion_packet_wide)] w) ∧ sizedMet enc Tryd.prog Tryd.f5 (OpenSpec.ofChange Rows.joinerBackSpec) false w args) (Rows.joinerBackSpec.post enc Tryd.prog Tryd.f5 false true false false) := by
  refine returnsInHanded_of_change_and (C := Tryd.checked) (X := fun w _ => laidMetH Tryd.prog [("clarion/packet.wide", Rows.laid_clarion_packet_wide)] w) (fun _ _ _ hh h => h.of_heap hh) own started (by kernel_rfl) Tryd.func5
    (ChangeSpec.witness_shaped (enc := enc) (C := Tryd.checked) (os := os) (X := fun w _ => laidMetH Tryd.prog [("clarion/packet.wide", Rows.laid_clarion_packet_wide)] w) false (World.doorLaid Tryd.prog 400 os) #[.slice none 0 0, .int .i64 0, .slice none 0 0] 8 rfl (World.shaped_of_RefB (by kernel_rfl) (by kernel_rfl)) (by kernel_rfl) (by kernel_rfl) (by kernel_rfl) (door_met os _)) ?_
  intro W base args ds gs before hval0 hW hcnd _ hL _
  have hval : ∀ (j : Nat) t v, Tryd.f5.params[j]? = some t → args[j]? = some v → Value.okWide Tryd.prog W .any base t v := hval0
  have hW' := hW
  obtain ⟨p, q, hA0, hV, rfl, hfz, hnd⟩ := hW
  have hA : DataW.TrodAll enc Tryd.prog W 0 (fun _ => true) true Tryd.f5.params.toList args.toList ds p := hA0
  rw [Tryd.params5] at hA hval
  obtain ⟨v0, vs0, d0, ds0, p0, q0, hargs, rfl, rfl, h0, r0⟩ := trodAll_cons hA
  obtain ⟨v1, vs1, d1, ds1, p1, q1, rfl, rfl, rfl, h1, r1⟩ := trodAll_cons r0
  obtain ⟨v2, vs2, d2, ds2, p2, q2, rfl, rfl, rfl, h2, r2⟩ := trodAll_cons r1
  obtain ⟨rfl, rfl, rfl⟩ := trodAll_nil r2
  obtain rfl : args = #[v0, v1, v2] := by cases args; simp_all
  obtain ⟨rfl, rfl⟩ := trodVars_none hV
  obtain ⟨a0, len0, cap0, rfl⟩ := okWide_slice Tryd.underlying33 (hval 0 33 v0 rfl rfl)
  have k0 := h0
  have lt0 : ∀ x ∈ p0, x.block < W.heap.size := by obtain ⟨m, hm⟩ := k0; exact DataW.trod_lt m _ _ _ hm
  obtain ⟨z0, w0⟩ := open_trow2 h0
  obtain ⟨a1, rfl, rfl, rfl, w1⟩ := open_int Tryd.underlying3 (hval 1 3 v1 rfl rfl) h1
  obtain ⟨a2, len2, cap2, rfl⟩ := okWide_slice Tryd.underlying47 (hval 2 47 v2 rfl rfl)
  have k2 := h2
  have lt2 : ∀ x ∈ p2, x.block < W.heap.size := by obtain ⟨m, hm⟩ := k2; exact DataW.trod_lt m _ _ _ hm
  obtain ⟨z2, w2⟩ := open_irow h2
  clear hA0 hval0
  refine (walk a0 len0 cap0 z0 W w0 a1 w1 a2 len2 cap2 z2 W w2 (wd_of_laid hL)).mono fun e W' ⟨he, bel⟩ => ?_
  subst he
  exact ⟨_, rfl, _, _, _, [], _, [], hW', trodAll_mk1 (shut_bool Tryd.underlying4 _), (trodAll_cons_mk (Below.trod laidOut (by kernel_rfl) (of_decide_eq_true (by kernel_rfl)) k0 bel lt0) (trodAll_cons_mk (shut_int Tryd.underlying3 w1) (trodAll_cons_mk (Below.trod laidOut (by kernel_rfl) (of_decide_eq_true (by kernel_rfl)) k2 bel lt2) trodAll_mk0))), rfl, bel.frame _, fun h => by cases h⟩

theorem over : Rows.joinerBackRow.holds Tryd.pinned (OpenSpec.ofChange Rows.joinerBackSpec) :=
  OpenClaim.holds_of_wide 5 Tryd.f5 rfl rfl rfl rfl rfl rfl rfl ⟨rfl, rfl, rfl, rfl, rfl⟩ rfl rfl rfl rfl rfl (by kernel_rfl) Tryd.func5 (by kernel_rfl)
    (of_decide_eq_true (by kernel_rfl)) (by unfold Func.isWrapper; first | (rw [if_pos (by decide +kernel)]; kernel_rfl) | (rw [if_neg (by decide +kernel)]; exact ⟨rfl, rfl⟩))
    (fun os started H enc _ => lifted os started H enc)

set_option maxRecDepth 100000 in
theorem proved : Rows.JoinerBackCardSaid :=
  Claim7.holds_tied_plain_at .later [] [.data] true (true, _) false over (fun _ h => by cases h) (by kernel_rfl) (fun _ h => by cases h) joinerBack_row_tie rfl ⟨rfl, rfl⟩ (by kernel_rfl) rfl
    (fun f fn hf hfn => by
      obtain rfl : f = 5 := Option.some.inj ((show Tryd.prog.funcNamed "clarion/clarionlaw16.JoinerBack" = some 5 by kernel_rfl).symm.trans hf) |>.symm
      obtain rfl : fn = Tryd.f5 := (Option.some.inj (Tryd.func5.symm.trans hfn)).symm
      exact ⟨by kernel_rfl, fun j t ht => by
        rw [Tryd.params5] at ht
        have hm : t ∈ [33, 3, 47] := by simpa using Array.mem_of_getElem? ht
        have hall : ([33, 3, 47].all fun u => !Tryd.prog.wantsStandIn u) = true := by kernel_rfl
        exact (show Tryd.prog.wantsStandIn t = false by simpa using List.all_eq_true.1 hall t hm)⟩)
    (by kernel_rfl)
#print axioms proved
end Go.Proofs.YtifbomppgflkfaaDoor.joinerBack
