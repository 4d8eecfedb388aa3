/-
  For any number of rows, any calls and any place and row TablePlays returns true: each call answers as the document says, and what is known, lost and told is the document's; nothing that was there is changed. No condition.
-/
import Derived.Test.YtpkidopnkofccaaRows
import Derived.Test.YtpkidopnkofccaaTbDoes
namespace Go.Proofs.Ytpkidopnkofccaa.tablePlays
open Go.ChangeShapes Go.WideShapes Go.ChangeAt Go.RowKit Gf
set_option maxRecDepth 100000
open Go.ChangeMaps (open_string shut_string)
set_option linter.unusedVariables false
set_option maxHeartbeats 3200000 in
theorem off (r : Int) (a : Option Addr) (len cap : Nat) (P Q : Int) (w : World) (h : ¬ okR r) :
    Calls Try.prog 3 #[.int .i64 r, .slice a len cap, .agg #[.int .i64 P, .int .i64 Q]] w fun e w' => e = .returned (.bool true) ∧ Below w.heap.size w w' := by
  obtain ⟨b, hb⟩ : ∃ b, w.heap.size = b := ⟨_, rfl⟩
  obtain ⟨wA, hA⟩ : ∃ wX, w.alloc (.cells #[.int .i64 P, .int .i64 Q] 23) = wX := ⟨_, rfl⟩
  have HC0 := Lib.hid (show CsAt b [.int .i64 P, .int .i64 Q] wA by rw [← hb, ← hA]; exact CsAt.made w #[.int .i64 P, .int .i64 Q] _ (by simp))
  have HK0 := Lib.hid (show Keeps w wA by rw [← hA]; exact (Keeps.refl w).alloc _)
  have HAW := Lib.hid (fun W => awake13_any W W (Keeps.refl W))
  have HNW := Lib.hid (fun W => tbnew_no h W)
  have HRT := Lib.hid (fun W => rtright_any r false (decide_eq_false h) W)
  clear h
  go_enter Try.func3, Try.ntmps3
  go_wp2_with (first | (go_at_call 5; refine (HNW.out _).mono ?_; rintro _ w1 ⟨rfl, k1⟩; have HK1 := Lib.hid (HK0.out.trans k1); clear k1) | (go_at_call 6; refine (HRT.out _).mono ?_; rintro _ _ ⟨rfl, rfl⟩) | (go_at_call 7; refine (HAW.out _).mono ?_; rintro _ w99 ⟨rfl, k99⟩))
  go_ret
  exact ⟨rfl, HK1.out.trans k99⟩
set_option maxHeartbeats 3200000 in
theorem many (r : Nat) (a : Option Addr) (len cap : Nat) (P Q : Int) (w : World) (l : List Opt) (h : okR (r : Int)) (hI : IsE optT w a len l) (hm : len ≤ maxLen) (hf : fewO l = false) :
    Calls Try.prog 3 #[.int .i64 (r : Int), .slice a len cap, .agg #[.int .i64 P, .int .i64 Q]] w fun e w' => e = .returned (.bool true) ∧ Below w.heap.size w w' := by
  obtain ⟨b, hb⟩ : ∃ b, w.heap.size = b := ⟨_, rfl⟩
  obtain ⟨wA, hA⟩ : ∃ wX, w.alloc (.cells #[.int .i64 P, .int .i64 Q] 23) = wX := ⟨_, rfl⟩
  have HC0 := Lib.hid (show CsAt b [.int .i64 P, .int .i64 Q] wA by rw [← hb, ← hA]; exact CsAt.made w #[.int .i64 P, .int .i64 Q] _ (by simp))
  have HK0 := Lib.hid (show Keeps w wA by rw [← hA]; exact (Keeps.refl w).alloc _)
  have HAW := Lib.hid (fun W => awake13_any W W (Keeps.refl W))
  have HNW := Lib.hid (fun W => tbnew_ok h W)
  have HRT := Lib.hid (fun W => rtright_any (r : Int) true (decide_eq_true h) W)
  have HFW := Lib.hid (fun W (k : Keeps wA W) => show Calls Try.prog 8 #[.slice a len cap] W fun e w' => e = .returned (.bool false) ∧ W = w' by
    have := tbfew_any (cap := cap) W (hI.keeps (HK0.out.trans k)) hm; rwa [hf] at this)
  clear h hI hm hf
  go_enter Try.func3, Try.ntmps3
  go_wp2_with (first | (go_at_call 5; refine (HNW.out _).mono ?_; rintro _ w1 ⟨p, rb, rfl, hat, k1, hp, hrb⟩; have H1 := Lib.hid (show OwnTb wA p (tb0 r) (fun k => k = p ∨ k = rb) w1 from ⟨hat, k1, fun b hb => by rcases hb with rfl | rfl <;> omega⟩); clear hat k1 hp hrb) | (go_at_call 6; refine (HRT.out _).mono ?_; rintro _ _ ⟨rfl, rfl⟩) | (go_at_call 8; refine (HFW.out _ (H1.out.k)).mono ?_; rintro _ _ ⟨rfl, rfl⟩) | (go_at_call 7; refine (HAW.out _).mono ?_; rintro _ w99 ⟨rfl, k99⟩))
  go_ret
  exact ⟨rfl, (HK0.out.trans H1.out.k).trans k99⟩
def plRel (wA : World) (p x r len : Nat) (S : Nat → Prop) (i : Value) (wr : World) : Prop := ∃ k : Nat, k ≤ len ∧ i = .int .i64 (k : Int) ∧ ∃ T U, T.R = r ∧ PairT wA p x T S U wr
set_option maxHeartbeats 12800000 in
theorem plays (r : Nat) (a : Option Addr) (len cap : Nat) (P Q : Int) (w : World) (l : List Opt) (h : okR (r : Int)) (hI : IsE optT w a len l) (hm : len ≤ maxLen) (hf : fewO l = true) :
    Calls Try.prog 3 #[.int .i64 (r : Int), .slice a len cap, .agg #[.int .i64 P, .int .i64 Q]] w fun e w' => e = .returned (.bool true) ∧ Below w.heap.size w w' := by
  obtain ⟨b, hb⟩ : ∃ b, w.heap.size = b := ⟨_, rfl⟩
  obtain ⟨wA, hA⟩ : ∃ wX, w.alloc (.cells #[.int .i64 P, .int .i64 Q] 23) = wX := ⟨_, rfl⟩
  have HC0 := Lib.hid (show CsAt b [.int .i64 P, .int .i64 Q] wA by rw [← hb, ← hA]; exact CsAt.made w #[.int .i64 P, .int .i64 Q] _ (by simp))
  have HK0 := Lib.hid (show Keeps w wA by rw [← hA]; exact (Keeps.refl w).alloc _)
  have HAW := Lib.hid (fun W => awake13_any W W (Keeps.refl W))
  have hr : 256 ≤ r ∧ r ≤ 1024 := by unfold okR at h; omega
  obtain ⟨hr1, hr2⟩ := hr
  have hf2 := hf
  unfold fewO at hf2
  rw [Bool.and_eq_true, decide_eq_true_iff, decide_eq_true_iff] at hf2
  have HOKS := Lib.hid (fun i (hi : i < l.length) => hf2.1 _ (List.getElem_mem hi))
  have hlen : len ≤ 30 := by rw [hI.1]; exact hf2.2
  have HN := Lib.hid hI.1
  have HNW := Lib.hid (fun W => tbnew_ok h W)
  have HRN := Lib.hid (fun W => rtnew_any h W)
  unfold RtNewPost at HRN
  have HRT := Lib.hid (fun W => rtright_any (r : Int) true (decide_eq_true h) W)
  have HFW := Lib.hid (fun W (k : Keeps wA W) => show Calls Try.prog 8 #[.slice a len cap] W fun e w' => e = .returned (.bool true) ∧ W = w' by
    have := tbfew_any (cap := cap) W (hI.keeps (HK0.out.trans k)) hm; rwa [hf] at this)
  have HII := Lib.hid (fun W (k : Keeps wA W) => hI.keeps (HK0.out.trans k))
  have HBB := Lib.hid (show b < wA.heap.size from HC0.out.old)
  clear h hI hm hf hf2
  go_enter Try.func3, Try.ntmps3
  go_wp2_with (first | (go_at_call 5; refine (HNW.out _).mono ?_; rintro _ w1 ⟨p, rb, rfl, hat, k1, hp, hrb⟩; have H1 := Lib.hid (show OwnTb wA p (tb0 r) (fun k => k = p ∨ k = rb) w1 from ⟨hat, k1, fun b hb => by rcases hb with rfl | rfl <;> omega⟩); clear hat k1 hp hrb) | (go_at_call 6; refine (HRT.out _).mono ?_; rintro _ _ ⟨rfl, rfl⟩) | (go_at_call 8; refine (HFW.out _ (H1.out.k)).mono ?_; rintro _ _ ⟨rfl, rfl⟩) | (go_at_call 9; refine (HRN.out _).mono ?_; rintro _ w2 ⟨x, bb, bi, bs, rfl, hin, k2, n1, n2, n3, n4⟩; have H2 := Lib.hid (show PairT wA p x (tb0 r) (fun k => k = p ∨ k = rb) (fun k => k = x ∨ k = bb ∨ k = bi ∨ k = bs) w2 from ⟨H1.out.f.keeps k2, ⟨bb, bi, bs, hin⟩, (fun k hk e => by have := H1.out.f.old k hk; rcases e with rfl | rfl | rfl | rfl <;> omega), H1.out.k.trans k2, H1.out.n, fun k e => by have := Below.size H1.out.k; rcases e with rfl | rfl | rfl | rfl <;> omega⟩); clear hin k2 n1 n2 n3 n4))
  go_loopw [10] (fun i wr => plRel wA p x r len (fun k => k = p ∨ k = rb) i wr) (fun i _ => len - (intOf i).toNat)
  case atStart => exact ⟨0, Nat.zero_le _, rfl, tb0 r, _, rfl, H2.out⟩
  case round =>
    obtain ⟨k, hk, rfl, T, U, hTR, hP⟩ := hrel
    have HP := Lib.hid hP
    have HTR := Lib.hid hTR
    clear hP hTR
    by_cases hlt : k < len
    · have hkI : (k : Int) < (len : Int) := by omega
      have hkl : k < l.length := by rw [← HN.out]; exact hlt
      obtain ⟨ob, oo, rfl, hor⟩ := opt_range (HII.out wr HP.out.k) hkl
      have HOR := Lib.hid (hor wr (Keeps.refl wr))
      have HDO := Lib.hid (does_any HP.out l[k] (HOKS.out k hkl))
      obtain ⟨O, hO⟩ : ∃ O, l[k] = O := ⟨_, rfl⟩
      rw [hO] at HOR HDO
      have wr1 := wrapI (a := (k : Int) + 1) (by omega) (by omega)
      clear hor hO hkl
      go_wp2_with (first | (refine wp_ldOp (b := ob) (off := oo + k * 5) (s := O) HOR.out rfl _ rfl rfl ?_) | (go_at_call 10; refine HDO.out.mono ?_; rintro _ w5 ⟨rfl, T', U', hT', hP'⟩; have HP5 := Lib.hid hP'; have HT5 := Lib.hid (hT'.trans HTR.out); clear hT' hP'))
      go_roundw
      case rel => exact ⟨k + 1, by omega, by go_num, T', U', HT5.out, HP5.out⟩
      case measure => simp [intOf]; omega
    · obtain rfl : k = len := by omega
      have hkI : ¬ ((k : Int) < (k : Int)) := by omega
      have HB := Lib.hid (HC0.out.keeps HP.out.k)
      have c0 : wr.cell? ⟨b, 0, none⟩ = some (.int .i64 P) := HB.out.cell 0 rfl
      have HL := Lib.hid (fun W (k : Keeps wr W) => HP.out.keeps k)
      have HBW := Lib.hid (fun W (k : Keeps wr W) => HB.out.keeps k)
      have HSM := Lib.hid (fun W (h : PairT wA p x T (fun k => k = p ∨ k = rb) U W) => tbsame_any h.f h.r)
      by_cases hP0 : 0 ≤ P ∧ P < 191 * (r : Int)
      · obtain ⟨u, rfl⟩ : ∃ u : Nat, P = (u : Int) := ⟨P.toNat, by omega⟩
        have hu : u < 191 * T.R := by rw [HTR.out]; omega
        have HAT := Lib.hid (tbat_ok HP.out.f hu)
        have HVB := Lib.hid (fun W (h : PairT wA p x T (fun k => k = p ∨ k = rb) U W) => show ∃ bb bi bs, RtIn U x bb bi bs T W ∧ ∀ W', Eqv W W' → W'.cell? ⟨bb, u, none⟩ = some (u8V (T.B u)) ∧ W'.cell? ⟨bi, u, none⟩ = some (.bool (T.Is u)) by
          obtain ⟨bb, bi, bs, h⟩ := h.r
          exact ⟨bb, bi, bs, h, fun W' e => ⟨(h.eqv e).b.cell u (by omega), (h.eqv e).i.cell u (by omega)⟩⟩)
        obtain ⟨y, hy⟩ : ∃ y, T.B u = y := ⟨_, rfl⟩
        obtain ⟨z, hz⟩ : ∃ z, T.Is u = z := ⟨_, rfl⟩
        rw [hy, hz] at HAT HVB
        have q1 : (0 : Int) ≤ (u : Int) := by omega
        have q2 : (u : Int) < 191 * (r : Int) := by omega
        have q3 : (u : Int) < 255 * (r : Int) := by omega
        have wr1 := wrapI (a := 191 * (r : Int)) (by omega) (by omega)
        clear hP0 hu hy hz
        by_cases hQ0 : 0 ≤ Q ∧ Q < (r : Int)
        · obtain ⟨v, rfl⟩ : ∃ v : Nat, Q = (v : Int) := ⟨Q.toNat, by omega⟩
          have hv : v < T.R := by rw [HTR.out]; omega
          have HLO := Lib.hid (fun W (h : PtAt (fun k => k = p ∨ k = rb) p T W) => tblost_ok h hv)
          have HRL := Lib.hid (fun W (h : RtAt U x T W) => rtlost_any h hv)
          obtain ⟨G, hG⟩ : ∃ G, lostT T v = G := ⟨_, rfl⟩
          rw [hG] at HLO HRL
          have q5 : ¬ ((v : Int) < 0) := by omega
          have q6 : ¬ ((r : Int) ≤ (v : Int)) := by omega
          clear hQ0 hv hG
          go_wp2_with (first | (go_at_call 11; refine HAT.out.mono ?_; rintro _ W3 ⟨rfl, he⟩; have H3 := Lib.hid (HL.out W3 ((Keeps.refl wr).eqv he)); have HB3 := Lib.hid (HBW.out W3 ((Keeps.refl wr).eqv he)); have c1 : W3.cell? ⟨b, 1, none⟩ = some (.int .i64 (v : Int)) := HB3.out.cell 1 rfl; clear he) | (go_at_call 12; refine (HLO.out W3 H3.out.f).mono ?_; rintro _ W4 ⟨rfl, k4⟩; have H4 := Lib.hid (H3.out.keeps k4); have HB4 := Lib.hid (HB3.out.keeps k4); have c0 : W4.cell? ⟨b, 0, none⟩ = some (.int .i64 (u : Int)) := HB4.out.cell 0 rfl; clear k4))
          obtain ⟨bb, bi, bs, hR4, hcl⟩ := HVB.out W4 H4.out
          have HR4 := Lib.hid hR4
          have HY4 := Lib.hid (fun W e => (hcl W e).1)
          have HZ4 := Lib.hid (fun W e => (hcl W e).2)
          clear hR4 hcl
          refine wp_draw (by kernel_rfl) [.bool true, .bool true, .int .u8 (y.toNat : Int), .pointer (some ⟨x, 0, none⟩), .pointer (some ⟨x, 0, none⟩), .pointer (some ⟨x, 1, none⟩), sl0 bb (255 * r), .pointer (some ⟨b, 0, none⟩), .int .i64 (u : Int), .pointer (some ⟨bb, u, none⟩), .int .u8 (y.toNat : Int), .bool false, .bool false, .bool z, .pointer (some ⟨x, 0, none⟩), .pointer (some ⟨x, 0, none⟩), .pointer (some ⟨x, 2, none⟩), sl0 bi (255 * r), .pointer (some ⟨b, 0, none⟩), .int .i64 (u : Int), .pointer (some ⟨bi, u, none⟩), .bool z, .bool false, .bool false, .bool false, .bool false, .bool true, .bool false, .bool false, undef, undef, undef, undef, undef, .bool false, .bool false]
            (fun _ W => Eqv W4 W) rfl (by kernel_rfl) (fin := ?fin0) ?hfin0 (Eqv.drew W4) ?each0 ?hend0
          case hfin0 => simp [seqA, dstOf, Act.put]; rfl
          case each0 =>
            refine ⟨?_, ?_, ?_, ?_, ?_, ?_, ?_, ?_, ?_, ?_, ?_, ?_, ?_, ?_, ?_, ?_, ?_, ?_, ?_, ?_, ?_, ?_, ?_, ?_, ?_, ?_, ?_, ?_, ?_, ?_, ?_, ?_, ?_, ?_, ?_, ?_, trivial⟩
            all_goals intro L w5 h0 hd hs hw
            all_goals first | rw [if_pos (by rfl)] | skip
            all_goals first | exact ⟨fun _ => rfl, fun L' k => hw⟩ | skip
            all_goals unfold Does
            all_goals have g0 : w5.cell? ⟨b, 0, none⟩ = some (.int .i64 (u : Int)) := (HB4.out.eqv hw).cell 0 rfl
            all_goals have g1 : w5.cell? ⟨x, 1, none⟩ = some (sl0 bb (255 * r)) := by have := (HR4.out.eqv hw).c.cell 1 rfl; rwa [HTR.out] at this
            all_goals have g2 : w5.cell? ⟨x, 2, none⟩ = some (sl0 bi (255 * r)) := by have := (HR4.out.eqv hw).c.cell 2 rfl; rwa [HTR.out] at this
            all_goals have g3 := HY4.out w5 hw
            all_goals have g4 := HZ4.out w5 hw
            all_goals go_simp
            all_goals first | exact fun L' k => hw | skip
          case hend0 =>
          intro L w5 hL hw
          have H5 := Lib.hid (H4.out.keeps ((Keeps.refl W4).eqv hw))
          have HB5 := Lib.hid (HB4.out.eqv hw)
          have c1 : w5.cell? ⟨b, 1, none⟩ = some (.int .i64 (v : Int)) := HB5.out.cell 1 rfl
          clear hL hw
          go_wp2_with (first | (go_at_call 14; refine (HRL.out _ H5.out.r).mono ?_; rintro _ w6 ⟨rfl, he6⟩; have H6 := Lib.hid (H5.out.keeps ((Keeps.refl w5).eqv he6)); clear he6) | (go_at_call 13; refine (HSM.out _ H6.out).mono ?_; rintro _ w8 ⟨rfl, k8⟩; have HK8 := Lib.hid (H6.out.k.trans k8); clear k8) | (go_at_call 7; refine (HAW.out _).mono ?_; rintro _ w99 ⟨rfl, k99⟩))
          go_ret
          exact ⟨rfl, (HK0.out.trans HK8.out).trans k99⟩
        · have HLO := Lib.hid (fun W (h : PtAt (fun k => k = p ∨ k = rb) p T W) => tblost_range h (n := Q) (by rw [HTR.out]; exact hQ0))
          by_cases hQ1 : Q < 0
          · clear hQ0
            go_wp2_with (first | (go_at_call 11; refine HAT.out.mono ?_; rintro _ W3 ⟨rfl, he⟩; have H3 := Lib.hid (HL.out W3 ((Keeps.refl wr).eqv he)); have HB3 := Lib.hid (HBW.out W3 ((Keeps.refl wr).eqv he)); have c1 : W3.cell? ⟨b, 1, none⟩ = some (.int .i64 Q) := HB3.out.cell 1 rfl; clear he) | (go_at_call 12; refine (HLO.out W3 H3.out.f).mono ?_; rintro _ W4 ⟨rfl, hx⟩; have H4 := Lib.hid (H3.out.keeps (show Keeps W3 W4 by rw [← hx]; exact Keeps.refl W3)); have HB4 := Lib.hid (HB3.out.keeps (show Keeps W3 W4 by rw [← hx]; exact Keeps.refl W3)); have c0 : W4.cell? ⟨b, 0, none⟩ = some (.int .i64 (u : Int)) := HB4.out.cell 0 rfl; clear hx))
            obtain ⟨bb, bi, bs, hR4, hcl⟩ := HVB.out W4 H4.out
            have HR4 := Lib.hid hR4
            have HY4 := Lib.hid (fun W e => (hcl W e).1)
            have HZ4 := Lib.hid (fun W e => (hcl W e).2)
            clear hR4 hcl
            refine wp_draw (by kernel_rfl) [.bool true, .bool true, .int .u8 (y.toNat : Int), .pointer (some ⟨x, 0, none⟩), .pointer (some ⟨x, 0, none⟩), .pointer (some ⟨x, 1, none⟩), sl0 bb (255 * r), .pointer (some ⟨b, 0, none⟩), .int .i64 (u : Int), .pointer (some ⟨bb, u, none⟩), .int .u8 (y.toNat : Int), .bool false, .bool false, .bool z, .pointer (some ⟨x, 0, none⟩), .pointer (some ⟨x, 0, none⟩), .pointer (some ⟨x, 2, none⟩), sl0 bi (255 * r), .pointer (some ⟨b, 0, none⟩), .int .i64 (u : Int), .pointer (some ⟨bi, u, none⟩), .bool z, .bool false, .bool false, .bool false, .bool false, .bool true, .bool false, .bool false, undef, undef, undef, undef, undef, .bool false, .bool false]
              (fun _ W => Eqv W4 W) rfl (by kernel_rfl) (fin := ?fin2) ?hfin2 (Eqv.drew W4) ?each2 ?hend2
            case hfin2 => simp [seqA, dstOf, Act.put]; rfl
            case each2 =>
              refine ⟨?_, ?_, ?_, ?_, ?_, ?_, ?_, ?_, ?_, ?_, ?_, ?_, ?_, ?_, ?_, ?_, ?_, ?_, ?_, ?_, ?_, ?_, ?_, ?_, ?_, ?_, ?_, ?_, ?_, ?_, ?_, ?_, ?_, ?_, ?_, ?_, trivial⟩
              all_goals intro L w5 h0 hd hs hw
              all_goals first | rw [if_pos (by rfl)] | skip
              all_goals first | exact ⟨fun _ => rfl, fun L' k => hw⟩ | skip
              all_goals unfold Does
              all_goals have g0 : w5.cell? ⟨b, 0, none⟩ = some (.int .i64 (u : Int)) := (HB4.out.eqv hw).cell 0 rfl
              all_goals have g1 : w5.cell? ⟨x, 1, none⟩ = some (sl0 bb (255 * r)) := by have := (HR4.out.eqv hw).c.cell 1 rfl; rwa [HTR.out] at this
              all_goals have g2 : w5.cell? ⟨x, 2, none⟩ = some (sl0 bi (255 * r)) := by have := (HR4.out.eqv hw).c.cell 2 rfl; rwa [HTR.out] at this
              all_goals have g3 := HY4.out w5 hw
              all_goals have g4 := HZ4.out w5 hw
              all_goals go_simp
              all_goals first | exact fun L' k => hw | skip
            case hend2 =>
            intro L w5 hL hw
            have H5 := Lib.hid (H4.out.keeps ((Keeps.refl W4).eqv hw))
            have HB5 := Lib.hid (HB4.out.eqv hw)
            have c1 : w5.cell? ⟨b, 1, none⟩ = some (.int .i64 Q) := HB5.out.cell 1 rfl
            clear hL hw
            have H6 := Lib.hid H5.out
            go_wp2_with (first | (go_at_call 13; refine (HSM.out _ H6.out).mono ?_; rintro _ w8 ⟨rfl, k8⟩; have HK8 := Lib.hid (H6.out.k.trans k8); clear k8) | (go_at_call 7; refine (HAW.out _).mono ?_; rintro _ w99 ⟨rfl, k99⟩))
            go_ret
            exact ⟨rfl, (HK0.out.trans HK8.out).trans k99⟩
          · have hQ2 : (r : Int) ≤ Q := by omega
            clear hQ0
            go_wp2_with (first | (go_at_call 11; refine HAT.out.mono ?_; rintro _ W3 ⟨rfl, he⟩; have H3 := Lib.hid (HL.out W3 ((Keeps.refl wr).eqv he)); have HB3 := Lib.hid (HBW.out W3 ((Keeps.refl wr).eqv he)); have c1 : W3.cell? ⟨b, 1, none⟩ = some (.int .i64 Q) := HB3.out.cell 1 rfl; clear he) | (go_at_call 12; refine (HLO.out W3 H3.out.f).mono ?_; rintro _ W4 ⟨rfl, hx⟩; have H4 := Lib.hid (H3.out.keeps (show Keeps W3 W4 by rw [← hx]; exact Keeps.refl W3)); have HB4 := Lib.hid (HB3.out.keeps (show Keeps W3 W4 by rw [← hx]; exact Keeps.refl W3)); have c0 : W4.cell? ⟨b, 0, none⟩ = some (.int .i64 (u : Int)) := HB4.out.cell 0 rfl; clear hx))
            obtain ⟨bb, bi, bs, hR4, hcl⟩ := HVB.out W4 H4.out
            have HR4 := Lib.hid hR4
            have HY4 := Lib.hid (fun W e => (hcl W e).1)
            have HZ4 := Lib.hid (fun W e => (hcl W e).2)
            clear hR4 hcl
            refine wp_draw (by kernel_rfl) [.bool true, .bool true, .int .u8 (y.toNat : Int), .pointer (some ⟨x, 0, none⟩), .pointer (some ⟨x, 0, none⟩), .pointer (some ⟨x, 1, none⟩), sl0 bb (255 * r), .pointer (some ⟨b, 0, none⟩), .int .i64 (u : Int), .pointer (some ⟨bb, u, none⟩), .int .u8 (y.toNat : Int), .bool false, .bool false, .bool z, .pointer (some ⟨x, 0, none⟩), .pointer (some ⟨x, 0, none⟩), .pointer (some ⟨x, 2, none⟩), sl0 bi (255 * r), .pointer (some ⟨b, 0, none⟩), .int .i64 (u : Int), .pointer (some ⟨bi, u, none⟩), .bool z, .bool false, .bool false, .bool false, .bool false, .bool true, .bool false, .bool false, undef, undef, undef, undef, undef, .bool false, .bool false]
              (fun _ W => Eqv W4 W) rfl (by kernel_rfl) (fin := ?fin3) ?hfin3 (Eqv.drew W4) ?each3 ?hend3
            case hfin3 => simp [seqA, dstOf, Act.put]; rfl
            case each3 =>
              refine ⟨?_, ?_, ?_, ?_, ?_, ?_, ?_, ?_, ?_, ?_, ?_, ?_, ?_, ?_, ?_, ?_, ?_, ?_, ?_, ?_, ?_, ?_, ?_, ?_, ?_, ?_, ?_, ?_, ?_, ?_, ?_, ?_, ?_, ?_, ?_, ?_, trivial⟩
              all_goals intro L w5 h0 hd hs hw
              all_goals first | rw [if_pos (by rfl)] | skip
              all_goals first | exact ⟨fun _ => rfl, fun L' k => hw⟩ | skip
              all_goals unfold Does
              all_goals have g0 : w5.cell? ⟨b, 0, none⟩ = some (.int .i64 (u : Int)) := (HB4.out.eqv hw).cell 0 rfl
              all_goals have g1 : w5.cell? ⟨x, 1, none⟩ = some (sl0 bb (255 * r)) := by have := (HR4.out.eqv hw).c.cell 1 rfl; rwa [HTR.out] at this
              all_goals have g2 : w5.cell? ⟨x, 2, none⟩ = some (sl0 bi (255 * r)) := by have := (HR4.out.eqv hw).c.cell 2 rfl; rwa [HTR.out] at this
              all_goals have g3 := HY4.out w5 hw
              all_goals have g4 := HZ4.out w5 hw
              all_goals go_simp
              all_goals first | exact fun L' k => hw | skip
            case hend3 =>
            intro L w5 hL hw
            have H5 := Lib.hid (H4.out.keeps ((Keeps.refl W4).eqv hw))
            have HB5 := Lib.hid (HB4.out.eqv hw)
            have c1 : w5.cell? ⟨b, 1, none⟩ = some (.int .i64 Q) := HB5.out.cell 1 rfl
            clear hL hw
            have H6 := Lib.hid H5.out
            go_wp2_with (first | (go_at_call 13; refine (HSM.out _ H6.out).mono ?_; rintro _ w8 ⟨rfl, k8⟩; have HK8 := Lib.hid (H6.out.k.trans k8); clear k8) | (go_at_call 7; refine (HAW.out _).mono ?_; rintro _ w99 ⟨rfl, k99⟩))
            go_ret
            exact ⟨rfl, (HK0.out.trans HK8.out).trans k99⟩
      · have HAT := Lib.hid (tbat_no HP.out.f (a := P) (by rw [HTR.out]; exact hP0))
        have wr1 := wrapI (a := 191 * (r : Int)) (by omega) (by omega)
        by_cases hPN : P < 0
        · clear hP0
          by_cases hQ0 : 0 ≤ Q ∧ Q < (r : Int)
          · obtain ⟨v, rfl⟩ : ∃ v : Nat, Q = (v : Int) := ⟨Q.toNat, by omega⟩
            have hv : v < T.R := by rw [HTR.out]; omega
            have HLO := Lib.hid (fun W (h : PtAt (fun k => k = p ∨ k = rb) p T W) => tblost_ok h hv)
            have HRL := Lib.hid (fun W (h : RtAt U x T W) => rtlost_any h hv)
            obtain ⟨G, hG⟩ : ∃ G, lostT T v = G := ⟨_, rfl⟩
            rw [hG] at HLO HRL
            have q5 : ¬ ((v : Int) < 0) := by omega
            have q6 : ¬ ((r : Int) ≤ (v : Int)) := by omega
            clear hQ0 hv hG
            go_wp2_with (first | (go_at_call 11; refine HAT.out.mono ?_; rintro _ W3 ⟨rfl, hx⟩; have H3 := Lib.hid (HL.out W3 (by rw [← hx]; exact Keeps.refl wr)); have HB3 := Lib.hid (HBW.out W3 (by rw [← hx]; exact Keeps.refl wr)); have c1 : W3.cell? ⟨b, 1, none⟩ = some (.int .i64 (v : Int)) := HB3.out.cell 1 rfl; clear hx) | (go_at_call 12; refine (HLO.out W3 H3.out.f).mono ?_; rintro _ W4 ⟨rfl, k4⟩; have H4 := Lib.hid (H3.out.keeps k4); have HB4 := Lib.hid (HB3.out.keeps k4); have c0 : W4.cell? ⟨b, 0, none⟩ = some (.int .i64 P) := HB4.out.cell 0 rfl; clear k4))
            refine wp_draw (by kernel_rfl) [.bool false, .bool false, undef, undef, undef, undef, undef, undef, undef, undef, undef, undef, undef, undef, undef, undef, undef, undef, undef, undef, undef, undef, undef, undef, .bool false, .bool false, .bool false, .bool true, .bool true, .int .u8 0, .bool false, .bool false, .bool false, .bool false, .bool false, .bool false]
              (fun _ W => Eqv W4 W) rfl (by kernel_rfl) (fin := ?fin4) ?hfin4 (Eqv.drew W4) ?each4 ?hend4
            case hfin4 => simp [seqA, dstOf, Act.put]; rfl
            case each4 =>
              refine ⟨?_, ?_, ?_, ?_, ?_, ?_, ?_, ?_, ?_, ?_, ?_, ?_, ?_, ?_, ?_, ?_, ?_, ?_, ?_, ?_, ?_, ?_, ?_, ?_, ?_, ?_, ?_, ?_, ?_, ?_, ?_, ?_, ?_, ?_, ?_, ?_, trivial⟩
              all_goals intro L w5 h0 hd hs hw
              all_goals first | rw [if_pos (by rfl)] | skip
              all_goals first | exact ⟨fun _ => rfl, fun L' k => hw⟩ | skip
              all_goals unfold Does
              all_goals have g0 : w5.cell? ⟨b, 0, none⟩ = some (.int .i64 P) := (HB4.out.eqv hw).cell 0 rfl
              all_goals go_simp
              all_goals first | exact fun L' k => hw | skip
            case hend4 =>
            intro L w5 hL hw
            have H5 := Lib.hid (H4.out.keeps ((Keeps.refl W4).eqv hw))
            have HB5 := Lib.hid (HB4.out.eqv hw)
            have c1 : w5.cell? ⟨b, 1, none⟩ = some (.int .i64 (v : Int)) := HB5.out.cell 1 rfl
            clear hL hw
            go_wp2_with (first | (go_at_call 14; refine (HRL.out _ H5.out.r).mono ?_; rintro _ w6 ⟨rfl, he6⟩; have H6 := Lib.hid (H5.out.keeps ((Keeps.refl w5).eqv he6)); clear he6) | (go_at_call 13; refine (HSM.out _ H6.out).mono ?_; rintro _ w8 ⟨rfl, k8⟩; have HK8 := Lib.hid (H6.out.k.trans k8); clear k8) | (go_at_call 7; refine (HAW.out _).mono ?_; rintro _ w99 ⟨rfl, k99⟩))
            go_ret
            exact ⟨rfl, (HK0.out.trans HK8.out).trans k99⟩
          · have HLO := Lib.hid (fun W (h : PtAt (fun k => k = p ∨ k = rb) p T W) => tblost_range h (n := Q) (by rw [HTR.out]; exact hQ0))
            by_cases hQ1 : Q < 0
            · clear hQ0
              go_wp2_with (first | (go_at_call 11; refine HAT.out.mono ?_; rintro _ W3 ⟨rfl, hx⟩; have H3 := Lib.hid (HL.out W3 (by rw [← hx]; exact Keeps.refl wr)); have HB3 := Lib.hid (HBW.out W3 (by rw [← hx]; exact Keeps.refl wr)); have c1 : W3.cell? ⟨b, 1, none⟩ = some (.int .i64 Q) := HB3.out.cell 1 rfl; clear hx) | (go_at_call 12; refine (HLO.out W3 H3.out.f).mono ?_; rintro _ W4 ⟨rfl, hx⟩; have H4 := Lib.hid (H3.out.keeps (show Keeps W3 W4 by rw [← hx]; exact Keeps.refl W3)); have HB4 := Lib.hid (HB3.out.keeps (show Keeps W3 W4 by rw [← hx]; exact Keeps.refl W3)); have c0 : W4.cell? ⟨b, 0, none⟩ = some (.int .i64 P) := HB4.out.cell 0 rfl; clear hx))
              refine wp_draw (by kernel_rfl) [.bool false, .bool false, undef, undef, undef, undef, undef, undef, undef, undef, undef, undef, undef, undef, undef, undef, undef, undef, undef, undef, undef, undef, undef, undef, .bool false, .bool false, .bool false, .bool true, .bool true, .int .u8 0, .bool false, .bool false, .bool false, .bool false, .bool false, .bool false]
                (fun _ W => Eqv W4 W) rfl (by kernel_rfl) (fin := ?fin6) ?hfin6 (Eqv.drew W4) ?each6 ?hend6
              case hfin6 => simp [seqA, dstOf, Act.put]; rfl
              case each6 =>
                refine ⟨?_, ?_, ?_, ?_, ?_, ?_, ?_, ?_, ?_, ?_, ?_, ?_, ?_, ?_, ?_, ?_, ?_, ?_, ?_, ?_, ?_, ?_, ?_, ?_, ?_, ?_, ?_, ?_, ?_, ?_, ?_, ?_, ?_, ?_, ?_, ?_, trivial⟩
                all_goals intro L w5 h0 hd hs hw
                all_goals first | rw [if_pos (by rfl)] | skip
                all_goals first | exact ⟨fun _ => rfl, fun L' k => hw⟩ | skip
                all_goals unfold Does
                all_goals have g0 : w5.cell? ⟨b, 0, none⟩ = some (.int .i64 P) := (HB4.out.eqv hw).cell 0 rfl
                all_goals go_simp
                all_goals first | exact fun L' k => hw | skip
              case hend6 =>
              intro L w5 hL hw
              have H5 := Lib.hid (H4.out.keeps ((Keeps.refl W4).eqv hw))
              have HB5 := Lib.hid (HB4.out.eqv hw)
              have c1 : w5.cell? ⟨b, 1, none⟩ = some (.int .i64 Q) := HB5.out.cell 1 rfl
              clear hL hw
              have H6 := Lib.hid H5.out
              go_wp2_with (first | (go_at_call 13; refine (HSM.out _ H6.out).mono ?_; rintro _ w8 ⟨rfl, k8⟩; have HK8 := Lib.hid (H6.out.k.trans k8); clear k8) | (go_at_call 7; refine (HAW.out _).mono ?_; rintro _ w99 ⟨rfl, k99⟩))
              go_ret
              exact ⟨rfl, (HK0.out.trans HK8.out).trans k99⟩
            · have hQ2 : (r : Int) ≤ Q := by omega
              clear hQ0
              go_wp2_with (first | (go_at_call 11; refine HAT.out.mono ?_; rintro _ W3 ⟨rfl, hx⟩; have H3 := Lib.hid (HL.out W3 (by rw [← hx]; exact Keeps.refl wr)); have HB3 := Lib.hid (HBW.out W3 (by rw [← hx]; exact Keeps.refl wr)); have c1 : W3.cell? ⟨b, 1, none⟩ = some (.int .i64 Q) := HB3.out.cell 1 rfl; clear hx) | (go_at_call 12; refine (HLO.out W3 H3.out.f).mono ?_; rintro _ W4 ⟨rfl, hx⟩; have H4 := Lib.hid (H3.out.keeps (show Keeps W3 W4 by rw [← hx]; exact Keeps.refl W3)); have HB4 := Lib.hid (HB3.out.keeps (show Keeps W3 W4 by rw [← hx]; exact Keeps.refl W3)); have c0 : W4.cell? ⟨b, 0, none⟩ = some (.int .i64 P) := HB4.out.cell 0 rfl; clear hx))
              refine wp_draw (by kernel_rfl) [.bool false, .bool false, undef, undef, undef, undef, undef, undef, undef, undef, undef, undef, undef, undef, undef, undef, undef, undef, undef, undef, undef, undef, undef, undef, .bool false, .bool false, .bool false, .bool true, .bool true, .int .u8 0, .bool false, .bool false, .bool false, .bool false, .bool false, .bool false]
                (fun _ W => Eqv W4 W) rfl (by kernel_rfl) (fin := ?fin7) ?hfin7 (Eqv.drew W4) ?each7 ?hend7
              case hfin7 => simp [seqA, dstOf, Act.put]; rfl
              case each7 =>
                refine ⟨?_, ?_, ?_, ?_, ?_, ?_, ?_, ?_, ?_, ?_, ?_, ?_, ?_, ?_, ?_, ?_, ?_, ?_, ?_, ?_, ?_, ?_, ?_, ?_, ?_, ?_, ?_, ?_, ?_, ?_, ?_, ?_, ?_, ?_, ?_, ?_, trivial⟩
                all_goals intro L w5 h0 hd hs hw
                all_goals first | rw [if_pos (by rfl)] | skip
                all_goals first | exact ⟨fun _ => rfl, fun L' k => hw⟩ | skip
                all_goals unfold Does
                all_goals have g0 : w5.cell? ⟨b, 0, none⟩ = some (.int .i64 P) := (HB4.out.eqv hw).cell 0 rfl
                all_goals go_simp
                all_goals first | exact fun L' k => hw | skip
              case hend7 =>
              intro L w5 hL hw
              have H5 := Lib.hid (H4.out.keeps ((Keeps.refl W4).eqv hw))
              have HB5 := Lib.hid (HB4.out.eqv hw)
              have c1 : w5.cell? ⟨b, 1, none⟩ = some (.int .i64 Q) := HB5.out.cell 1 rfl
              clear hL hw
              have H6 := Lib.hid H5.out
              go_wp2_with (first | (go_at_call 13; refine (HSM.out _ H6.out).mono ?_; rintro _ w8 ⟨rfl, k8⟩; have HK8 := Lib.hid (H6.out.k.trans k8); clear k8) | (go_at_call 7; refine (HAW.out _).mono ?_; rintro _ w99 ⟨rfl, k99⟩))
              go_ret
              exact ⟨rfl, (HK0.out.trans HK8.out).trans k99⟩
        · have hPB : 191 * (r : Int) ≤ P := by omega
          have hPC : 0 ≤ P := by omega
          clear hP0
          by_cases hQ0 : 0 ≤ Q ∧ Q < (r : Int)
          · obtain ⟨v, rfl⟩ : ∃ v : Nat, Q = (v : Int) := ⟨Q.toNat, by omega⟩
            have hv : v < T.R := by rw [HTR.out]; omega
            have HLO := Lib.hid (fun W (h : PtAt (fun k => k = p ∨ k = rb) p T W) => tblost_ok h hv)
            have HRL := Lib.hid (fun W (h : RtAt U x T W) => rtlost_any h hv)
            obtain ⟨G, hG⟩ : ∃ G, lostT T v = G := ⟨_, rfl⟩
            rw [hG] at HLO HRL
            have q5 : ¬ ((v : Int) < 0) := by omega
            have q6 : ¬ ((r : Int) ≤ (v : Int)) := by omega
            clear hQ0 hv hG
            go_wp2_with (first | (go_at_call 11; refine HAT.out.mono ?_; rintro _ W3 ⟨rfl, hx⟩; have H3 := Lib.hid (HL.out W3 (by rw [← hx]; exact Keeps.refl wr)); have HB3 := Lib.hid (HBW.out W3 (by rw [← hx]; exact Keeps.refl wr)); have c1 : W3.cell? ⟨b, 1, none⟩ = some (.int .i64 (v : Int)) := HB3.out.cell 1 rfl; clear hx) | (go_at_call 12; refine (HLO.out W3 H3.out.f).mono ?_; rintro _ W4 ⟨rfl, k4⟩; have H4 := Lib.hid (H3.out.keeps k4); have HB4 := Lib.hid (HB3.out.keeps k4); have c0 : W4.cell? ⟨b, 0, none⟩ = some (.int .i64 P) := HB4.out.cell 0 rfl; clear k4))
            refine wp_draw (by kernel_rfl) [.bool false, .bool false, undef, undef, undef, undef, undef, undef, undef, undef, undef, undef, undef, undef, undef, undef, undef, undef, undef, undef, undef, undef, undef, undef, .bool false, .bool false, .bool false, .bool true, .bool true, .int .u8 0, .bool false, .bool false, .bool false, .bool false, .bool false, .bool false]
              (fun _ W => Eqv W4 W) rfl (by kernel_rfl) (fin := ?fin8) ?hfin8 (Eqv.drew W4) ?each8 ?hend8
            case hfin8 => simp [seqA, dstOf, Act.put]; rfl
            case each8 =>
              refine ⟨?_, ?_, ?_, ?_, ?_, ?_, ?_, ?_, ?_, ?_, ?_, ?_, ?_, ?_, ?_, ?_, ?_, ?_, ?_, ?_, ?_, ?_, ?_, ?_, ?_, ?_, ?_, ?_, ?_, ?_, ?_, ?_, ?_, ?_, ?_, ?_, trivial⟩
              all_goals intro L w5 h0 hd hs hw
              all_goals first | rw [if_pos (by rfl)] | skip
              all_goals first | exact ⟨fun _ => rfl, fun L' k => hw⟩ | skip
              all_goals unfold Does
              all_goals have g0 : w5.cell? ⟨b, 0, none⟩ = some (.int .i64 P) := (HB4.out.eqv hw).cell 0 rfl
              all_goals go_simp
              all_goals first | exact fun L' k => hw | skip
            case hend8 =>
            intro L w5 hL hw
            have H5 := Lib.hid (H4.out.keeps ((Keeps.refl W4).eqv hw))
            have HB5 := Lib.hid (HB4.out.eqv hw)
            have c1 : w5.cell? ⟨b, 1, none⟩ = some (.int .i64 (v : Int)) := HB5.out.cell 1 rfl
            clear hL hw
            go_wp2_with (first | (go_at_call 14; refine (HRL.out _ H5.out.r).mono ?_; rintro _ w6 ⟨rfl, he6⟩; have H6 := Lib.hid (H5.out.keeps ((Keeps.refl w5).eqv he6)); clear he6) | (go_at_call 13; refine (HSM.out _ H6.out).mono ?_; rintro _ w8 ⟨rfl, k8⟩; have HK8 := Lib.hid (H6.out.k.trans k8); clear k8) | (go_at_call 7; refine (HAW.out _).mono ?_; rintro _ w99 ⟨rfl, k99⟩))
            go_ret
            exact ⟨rfl, (HK0.out.trans HK8.out).trans k99⟩
          · have HLO := Lib.hid (fun W (h : PtAt (fun k => k = p ∨ k = rb) p T W) => tblost_range h (n := Q) (by rw [HTR.out]; exact hQ0))
            by_cases hQ1 : Q < 0
            · clear hQ0
              go_wp2_with (first | (go_at_call 11; refine HAT.out.mono ?_; rintro _ W3 ⟨rfl, hx⟩; have H3 := Lib.hid (HL.out W3 (by rw [← hx]; exact Keeps.refl wr)); have HB3 := Lib.hid (HBW.out W3 (by rw [← hx]; exact Keeps.refl wr)); have c1 : W3.cell? ⟨b, 1, none⟩ = some (.int .i64 Q) := HB3.out.cell 1 rfl; clear hx) | (go_at_call 12; refine (HLO.out W3 H3.out.f).mono ?_; rintro _ W4 ⟨rfl, hx⟩; have H4 := Lib.hid (H3.out.keeps (show Keeps W3 W4 by rw [← hx]; exact Keeps.refl W3)); have HB4 := Lib.hid (HB3.out.keeps (show Keeps W3 W4 by rw [← hx]; exact Keeps.refl W3)); have c0 : W4.cell? ⟨b, 0, none⟩ = some (.int .i64 P) := HB4.out.cell 0 rfl; clear hx))
              refine wp_draw (by kernel_rfl) [.bool false, .bool false, undef, undef, undef, undef, undef, undef, undef, undef, undef, undef, undef, undef, undef, undef, undef, undef, undef, undef, undef, undef, undef, undef, .bool false, .bool false, .bool false, .bool true, .bool true, .int .u8 0, .bool false, .bool false, .bool false, .bool false, .bool false, .bool false]
                (fun _ W => Eqv W4 W) rfl (by kernel_rfl) (fin := ?fin10) ?hfin10 (Eqv.drew W4) ?each10 ?hend10
              case hfin10 => simp [seqA, dstOf, Act.put]; rfl
              case each10 =>
                refine ⟨?_, ?_, ?_, ?_, ?_, ?_, ?_, ?_, ?_, ?_, ?_, ?_, ?_, ?_, ?_, ?_, ?_, ?_, ?_, ?_, ?_, ?_, ?_, ?_, ?_, ?_, ?_, ?_, ?_, ?_, ?_, ?_, ?_, ?_, ?_, ?_, trivial⟩
                all_goals intro L w5 h0 hd hs hw
                all_goals first | rw [if_pos (by rfl)] | skip
                all_goals first | exact ⟨fun _ => rfl, fun L' k => hw⟩ | skip
                all_goals unfold Does
                all_goals have g0 : w5.cell? ⟨b, 0, none⟩ = some (.int .i64 P) := (HB4.out.eqv hw).cell 0 rfl
                all_goals go_simp
                all_goals first | exact fun L' k => hw | skip
              case hend10 =>
              intro L w5 hL hw
              have H5 := Lib.hid (H4.out.keeps ((Keeps.refl W4).eqv hw))
              have HB5 := Lib.hid (HB4.out.eqv hw)
              have c1 : w5.cell? ⟨b, 1, none⟩ = some (.int .i64 Q) := HB5.out.cell 1 rfl
              clear hL hw
              have H6 := Lib.hid H5.out
              go_wp2_with (first | (go_at_call 13; refine (HSM.out _ H6.out).mono ?_; rintro _ w8 ⟨rfl, k8⟩; have HK8 := Lib.hid (H6.out.k.trans k8); clear k8) | (go_at_call 7; refine (HAW.out _).mono ?_; rintro _ w99 ⟨rfl, k99⟩))
              go_ret
              exact ⟨rfl, (HK0.out.trans HK8.out).trans k99⟩
            · have hQ2 : (r : Int) ≤ Q := by omega
              clear hQ0
              go_wp2_with (first | (go_at_call 11; refine HAT.out.mono ?_; rintro _ W3 ⟨rfl, hx⟩; have H3 := Lib.hid (HL.out W3 (by rw [← hx]; exact Keeps.refl wr)); have HB3 := Lib.hid (HBW.out W3 (by rw [← hx]; exact Keeps.refl wr)); have c1 : W3.cell? ⟨b, 1, none⟩ = some (.int .i64 Q) := HB3.out.cell 1 rfl; clear hx) | (go_at_call 12; refine (HLO.out W3 H3.out.f).mono ?_; rintro _ W4 ⟨rfl, hx⟩; have H4 := Lib.hid (H3.out.keeps (show Keeps W3 W4 by rw [← hx]; exact Keeps.refl W3)); have HB4 := Lib.hid (HB3.out.keeps (show Keeps W3 W4 by rw [← hx]; exact Keeps.refl W3)); have c0 : W4.cell? ⟨b, 0, none⟩ = some (.int .i64 P) := HB4.out.cell 0 rfl; clear hx))
              refine wp_draw (by kernel_rfl) [.bool false, .bool false, undef, undef, undef, undef, undef, undef, undef, undef, undef, undef, undef, undef, undef, undef, undef, undef, undef, undef, undef, undef, undef, undef, .bool false, .bool false, .bool false, .bool true, .bool true, .int .u8 0, .bool false, .bool false, .bool false, .bool false, .bool false, .bool false]
                (fun _ W => Eqv W4 W) rfl (by kernel_rfl) (fin := ?fin11) ?hfin11 (Eqv.drew W4) ?each11 ?hend11
              case hfin11 => simp [seqA, dstOf, Act.put]; rfl
              case each11 =>
                refine ⟨?_, ?_, ?_, ?_, ?_, ?_, ?_, ?_, ?_, ?_, ?_, ?_, ?_, ?_, ?_, ?_, ?_, ?_, ?_, ?_, ?_, ?_, ?_, ?_, ?_, ?_, ?_, ?_, ?_, ?_, ?_, ?_, ?_, ?_, ?_, ?_, trivial⟩
                all_goals intro L w5 h0 hd hs hw
                all_goals first | rw [if_pos (by rfl)] | skip
                all_goals first | exact ⟨fun _ => rfl, fun L' k => hw⟩ | skip
                all_goals unfold Does
                all_goals have g0 : w5.cell? ⟨b, 0, none⟩ = some (.int .i64 P) := (HB4.out.eqv hw).cell 0 rfl
                all_goals go_simp
                all_goals first | exact fun L' k => hw | skip
              case hend11 =>
              intro L w5 hL hw
              have H5 := Lib.hid (H4.out.keeps ((Keeps.refl W4).eqv hw))
              have HB5 := Lib.hid (HB4.out.eqv hw)
              have c1 : w5.cell? ⟨b, 1, none⟩ = some (.int .i64 Q) := HB5.out.cell 1 rfl
              clear hL hw
              have H6 := Lib.hid H5.out
              go_wp2_with (first | (go_at_call 13; refine (HSM.out _ H6.out).mono ?_; rintro _ w8 ⟨rfl, k8⟩; have HK8 := Lib.hid (H6.out.k.trans k8); clear k8) | (go_at_call 7; refine (HAW.out _).mono ?_; rintro _ w99 ⟨rfl, k99⟩))
              go_ret
              exact ⟨rfl, (HK0.out.trans HK8.out).trans k99⟩
theorem walk (r : Int) (hr : (Lit.int .i64 r).wf = true) (a : Option Addr) (len cap : Nat) (l : List Opt) (w : World) (hI : IsE optT w a len l ∧ len ≤ maxLen) (xs : List Int) (hx : xs.length = 2) (hxw : ∀ x ∈ xs, (Lit.int .i64 x).wf = true) :
    Calls Try.prog 3 #[.int .i64 r, .slice a len cap, .agg (xs.map (.int .i64)).toArray] w fun e w' => e = .returned (.bool true) ∧ Below w.heap.size w w' := by
  match xs, hx with
  | [P, Q], _ =>
    show Calls Try.prog _ #[.int .i64 r, .slice a len cap, .agg #[.int .i64 P, .int .i64 Q]] w _
    by_cases h : okR r
    · obtain ⟨n, rfl⟩ : ∃ n : Nat, r = (n : Int) := ⟨r.toNat, by unfold okR at h; omega⟩
      cases hf : fewO l
      · exact many n a len cap P Q w l h hI.1 hI.2 hf
      · exact plays n a len cap P Q w l h hI.1 hI.2 hf
    · exact off r a len cap P Q w h


theorem own : ownKnob Try.prog.godebug = none := by kernel_rfl
theorem laidOut : laidOutB Try.prog = true := by kernel_rfl
set_option maxRecDepth 100000 in
theorem lifted (os : Os) (started : os.Started) (H : Type) (enc : TypeId × Value → H) :
    ReturnsInHanded {} Try.checked os 3 .any (Rows.tablePlaysSpec.pre6 enc Try.prog Try.f3 Rows.tablePlaysRow.domain false) (Rows.tablePlaysSpec.post enc Try.prog Try.f3 false true false false) := by
  refine returnsInHanded_of_change (C := Try.checked) own started (by kernel_rfl) Try.func3
    (ChangeSpec.witness6 (enc := enc) (C := Try.checked) false ⟨#[], #[.int .i64 0, .slice none 0 0, .agg #[.int .i64 0, .int .i64 0]], []⟩ 8 (by kernel_rfl) (by kernel_rfl) (by kernel_rfl) (by kernel_rfl)) ?_
  intro W base args ds gs before hval0 hW hcnd _
  have hval : ∀ (j : Nat) t v, Try.f3.params[j]? = some t → args[j]? = some v → Value.okWide Try.prog W .any base t v := hval0
  have hW' := hW
  obtain ⟨p, q, hA0, hV, rfl, hfz, hnd⟩ := hW
  have hA : DataW.TrodAll enc Try.prog W 0 (fun _ => true) true Try.f3.params.toList args.toList ds p := hA0
  rw [Try.params3] at hA hval
  obtain ⟨v0, vs0, d0, ds0, p0, q0, hargs, rfl, rfl, h0, r0⟩ := trodAll_cons hA
  obtain ⟨v1, vs1, d1, ds1, p1, q1, rfl, rfl, rfl, h1, r1⟩ := trodAll_cons r0
  obtain ⟨v2, vs2, d2, ds2, p2, q2, rfl, rfl, rfl, h2, r2⟩ := trodAll_cons r1
  obtain ⟨rfl, rfl, rfl⟩ := trodAll_nil r2
  obtain rfl : args = #[v0, v1, v2] := by cases args; simp_all
  obtain ⟨rfl, rfl⟩ := trodVars_none hV
  obtain ⟨a0, rfl, rfl, rfl, w0⟩ := open_int Try.underlying3 (hval 0 3 v0 rfl rfl) h0
  obtain ⟨a1, len1, cap1, rfl⟩ := okWide_slice Try.underlying22 (hval 1 22 v1 rfl rfl)
  have k1 := h1
  have lt1 : ∀ x ∈ p1, x.block < W.heap.size := by obtain ⟨m, hm⟩ := k1; exact DataW.trod_lt m _ _ _ hm
  obtain ⟨z1, w1⟩ := open_optrow h1
  have k2 := h2
  have lt2 : ∀ x ∈ p2, x.block < W.heap.size := by obtain ⟨m, hm⟩ := k2; exact DataW.trod_lt m _ _ _ hm
  obtain ⟨x2, n2, rfl, wx2⟩ := open_arr Try.underlying23 Try.underlying3 (by kernel_rfl) (by kernel_rfl) (hval 2 23 v2 rfl rfl) h2
  clear hA0 hval0
  refine (walk a0 w0 a1 len1 cap1 z1 W w1 x2 n2 wx2).mono fun e W' ⟨he, bel⟩ => ?_
  subst he
  exact ⟨_, rfl, _, _, _, [], _, [], hW', trodAll_mk1 (shut_bool Try.underlying4 _), (trodAll_cons_mk (shut_int Try.underlying3 w0) (trodAll_cons_mk (Below.trod laidOut (by kernel_rfl) (of_decide_eq_true (by kernel_rfl)) k1 bel lt1) (trodAll_cons_mk (Below.trod laidOut (by kernel_rfl) (of_decide_eq_true (by kernel_rfl)) k2 bel lt2) trodAll_mk0))), rfl, bel.frame _, fun h => by cases h⟩

theorem over : Rows.tablePlaysRow.holds Try.pinned (OpenSpec.ofChange Rows.tablePlaysSpec) :=
  OpenClaim.holds_of_wide 3 Try.f3 rfl rfl rfl rfl rfl rfl rfl ⟨rfl, rfl, rfl, rfl, rfl⟩ rfl rfl rfl rfl rfl (by kernel_rfl) Try.func3 (by kernel_rfl)
    (of_decide_eq_true (by kernel_rfl)) (by unfold Func.isWrapper; first | (rw [if_pos (by decide +kernel)]; kernel_rfl) | (rw [if_neg (by decide +kernel)]; exact ⟨rfl, rfl⟩))
    (fun os started H enc _ => lifted os started H enc)

theorem proved : Rows.TablePlaysSaid := over
#print axioms proved
end Go.Proofs.Ytpkidopnkofccaa.tablePlays
