/-
  For any calls BitsWrites returns true: which bits are written, call by call, and what is wrong; nothing that was there is changed. No condition.
-/
import Derived.Test.YtfkadmcndjohbaaRows
import Derived.Test.YtfkadmcndjohbaaBitsRow
namespace Go.Proofs.Ytfkadmcndjohbaa.bitsWrites
open Go.ChangeShapes Go.WideShapes Go.ChangeAt Go.RowKit Gf Bit
set_option maxRecDepth 100000
set_option linter.unusedVariables false
theorem rowFirst {w : World} {base : Nat} {v : Value} {L : List Bool} (h : OwnBl w base v L) (hn : L = [] → v = .slice none 0 0) : ∀ g, v.ownBlock = some g → ∃ u, w.cell? ⟨g, 0, none⟩ = some (.bool u) := by
  by_cases h0 : L = []
  · rw [hn h0]; intro g e; cases e
  · exact h.first h0
theorem nilStay {l L : List Bool} {v v' : Value} (hn : l = [] → v = .slice none 0 0) (h : l ++ L = [] → v' = v) (e : l ++ L = []) : v' = .slice none 0 0 := by
  rw [h e]; exact hn (List.append_eq_nil_iff.1 e).1
def bwRel (w : World) (b : Nat) (l : List OpD) (all i : Value) (wr : World) : Prop := ∃ k : Nat, k ≤ l.length ∧ i = .int .i64 (k : Int) ∧ OutAt b (allBits (l.take k)) wr ∧ OwnBl wr w.heap.size all (allBits (l.take k)) ∧ (allBits (l.take k) = [] → all = .slice none 0 0) ∧ Keeps w wr
set_option maxHeartbeats 16000000 in
theorem core (a : Option Addr) (len cap : Nat) (l : List OpD) (w : World) (h : IsO w a len l) (hm : len ≤ maxLen) (hf : fewB l = true) :
    Calls Try.prog 3 #[.slice a len cap] w fun e w' => e = .returned (.bool true) ∧ Below w.heap.size w w' := by
  obtain ⟨h60, hs60⟩ := few_yes hf
  have HF := Lib.hid (few_any (cap := cap) w h hm)
  rw [hf] at HF
  obtain ⟨N, hN⟩ : ∃ N, l.length = N := ⟨_, rfl⟩
  have hll : len = N := by rw [← hN]; exact h.1
  subst hll
  have hlen60 : len ≤ 60 := by omega
  have HN := Lib.hid hN
  have HH := Lib.hid h
  have HS := Lib.hid hs60
  have HAL := Lib.hid (show (allBits l).length ≤ 28800 by have := all_le hs60; omega)
  have HAK := Lib.hid (show ∀ k, (allBits (l.take k)).length ≤ 28800 from fun k => by have := congrArg List.length (allBits_split l k); rw [List.length_append] at this; have := HAL.out; omega)
  have hO := out_zero w
  have hk := Keeps.alloc (Keeps.refl w) (.cells zout 30)
  obtain ⟨w1, hw1⟩ : ∃ w1, w.alloc (.cells zout 30) = w1 := ⟨_, rfl⟩
  rw [hw1] at hO hk
  obtain ⟨b, hb⟩ : ∃ b, w.heap.size = b := ⟨_, rfl⟩
  rw [hb] at hO
  have HB := Lib.hid hb
  have HO := Lib.hid hO
  have HK := Lib.hid hk
  clear hO hk h hN hs60 h60 hf hm
  go_enter Try.func3, Try.ntmps3
  go_wp2_with (first | (go_at_call 9; refine HF.out.mono ?_; rintro _ _ ⟨rfl, rfl⟩) | (with_reducible refine wpList_allocZ infoOut rfl rfl ?_; rw [hw1, hb]))
  go_loopw [4, 5] (fun all i wr => bwRel w b l all i wr) (fun _ i _ => len - (intOf i).toNat)
  case atStart => exact ⟨0, by omega, rfl, HO.out, OwnBl.nil _ _, fun _ => rfl, HK.out⟩
  case round =>
    obtain ⟨k, hk, rfl, hO2, hOw, hNil, hk2⟩ := hrel
    rw [HN.out] at hk
    have HO2 := Lib.hid hO2
    have HOw := Lib.hid hOw
    have HNil := Lib.hid hNil
    have HK2 := Lib.hid hk2
    clear hO2 hk2 hOw hNil
    by_cases hlt : k < len
    · obtain ⟨rb, off, rfl, hrb, hc⟩ := HH.out.2.2 (by rw [HN.out]; omega)
      obtain ⟨o, ho⟩ : ∃ o, l[k]? = some o := ⟨l[k]'(by rw [HN.out]; exact hlt), List.getElem?_eq_getElem _⟩
      have hok := HH.out.2.1 o (List.mem_of_getElem? ho)
      have hos := HS.out o (List.mem_of_getElem? ho)
      have HC0 := Lib.hid (hc k o ho 0 _ rfl)
      have HC1 := Lib.hid (hc k o ho 1 _ rfl)
      have HC2 := Lib.hid (hc k o ho 2 _ rfl)
      have HC3 := Lib.hid (hc k o ho 3 _ rfl)
      have q0 := (Below.cell HK2.out (p := ⟨rb, off + k * 4, none⟩) hrb).trans HC0.out
      have q1 := (Below.cell HK2.out (p := ⟨rb, off + k * 4 + 1, none⟩) hrb).trans HC1.out
      have q2 := (Below.cell HK2.out (p := ⟨rb, off + k * 4 + 2, none⟩) hrb).trans HC2.out
      have q3 := (Below.cell HK2.out (p := ⟨rb, off + k * 4 + 3, none⟩) hrb).trans HC3.out
      have HSU := Lib.hid (allBits_succ ho)
      have HW := Lib.hid (lwrite_any HO2.out o hok (by omega) (by have := HAK.out k; omega))
      have HTD := Lib.hid fun W => told_any o W hok hos
      have HLn := Lib.hid (HAK.out k)
      have HLm := Lib.hid (bits_le hos)
      have HLb := Lib.hid (HAK.out (k + 1))
      obtain ⟨A, hA⟩ : ∃ A, (allBits (l.take (k + 1))).length = A := ⟨_, rfl⟩
      rw [hA] at HLb
      have HLL := Lib.hid hA
      have HL6 := Lib.hid (show (allBits (l.take k) ++ o.bits).length = A by rw [← HSU.out]; exact hA)
      obtain ⟨S, hS⟩ : ∃ S, st (pack (allBits (l.take (k + 1)))) = S := ⟨_, rfl⟩
      have HPk2 := Lib.hid hS
      have HPk := Lib.hid (show st (pack (allBits (l.take k) ++ o.bits)) = S by rw [← HSU.out]; exact hS)
      have hAb : A ≤ 28800 := HLb.out
      have hkI : (k : Int) < (len : Int) := by omega
      clear hc hok hos hA hS
      obtain ⟨t, x, n, s⟩ := o
      unfold OpD.cells at HW HTD
      simp only at q0 q1 q2 q3 HC0 HC1 HC2 HC3
      cases t
      · by_cases hn0 : n < 0
        · rw [show (OpD.mk false x n s).bad = true by simp [OpD.bad, hn0]] at HW
          go_wp2_with (first | (go_at_call 11; refine HW.out.mono ?_; rintro _ w3 ⟨rfl, hO3, k3⟩; have HO3 := Lib.hid hO3; have HK3 := Lib.hid (k3.kept HK2.out (by rw [HB.out]; exact Nat.le_refl _)); have HOw3 := Lib.hid (HOw.out.outs HNil.out HO2.out k3); have hbs := hO3.old; have p0 := (Below.cell HK3.out (p := ⟨rb, off + k * 4, none⟩) hrb).trans HC0.out; have p1 := (Below.cell HK3.out (p := ⟨rb, off + k * 4 + 1, none⟩) hrb).trans HC1.out; have p2 := (Below.cell HK3.out (p := ⟨rb, off + k * 4 + 2, none⟩) hrb).trans HC2.out; have p3 := (Below.cell HK3.out (p := ⟨rb, off + k * 4 + 3, none⟩) hrb).trans HC3.out; clear hO3 k3 hbs) | (go_at_call 12; refine (HTD.out _).mono ?_; rintro _ w4 ⟨v4, rfl, ho4, hk4⟩; obtain ⟨va4, vc4, rfl, hI4, _⟩ := ho4.is; have HI4 := Lib.hid hI4; have HO4 := Lib.hid (OutR.keeps HO3.out hk4); have HOw4 := Lib.hid (HOw3.out.kept hk4); have HK4 := Lib.hid (HK3.out.more hk4); clear ho4 hk4 hI4) | (at_builtin; refine wp_catB rfl _ _ rfl (w0 := w) HOw4.out rfl rfl HI4.out (by have := HLn.out; have := HLm.out; omega) HK4.out ?_; intro v5 w5 ho5 hk5 hg5 hv5; have HO5 := Lib.hid (OutR.row HO4.out hg5 (rowFirst HOw4.out HNil.out)); have HNil5 := Lib.hid (fun e => nilStay HNil.out hv5 e); rw [← HSU.out] at ho5; obtain ⟨va5, vc5, rfl, hI5, _⟩ := ho5.is; rw [HLL.out] at hI5 ⊢; have HOw5 := Lib.hid ho5; have HI5 := Lib.hid hI5; have HK5 := Lib.hid hk5; clear ho5 hk5 hg5 hv5 hI5) | (go_at_call 13; refine (olen_any HO5.out).mono ?_; rintro _ _ ⟨rfl, rfl⟩; rw [HL6.out]) | (go_at_call 14; refine (string_any HO5.out (by rw [HL6.out]; have := HLb.out; omega)).mono ?_; rintro _ w6 ⟨rfl, k6⟩; rw [HPk.out]; have HI6 := Lib.hid (HI5.out.kept k6); have HO6 := Lib.hid (OutR.keeps HO5.out k6); have HOw6 := Lib.hid (HOw5.out.kept k6); have HK6 := Lib.hid (HK5.out.more k6); clear k6) | (go_at_call 15; refine (rbytes_any _ HI6.out (by rw [HLL.out]; have := HLb.out; omega)).mono ?_; rintro _ w7 ⟨rfl, k7⟩; rw [HPk2.out]; have HO7 := Lib.hid (OutR.keeps HO6.out k7); have HOw7 := Lib.hid (HOw6.out.kept k7); have HK7 := Lib.hid (HK6.out.more k7); clear k7))
          go_roundw
          case rel => exact ⟨k + 1, by rw [HN.out]; omega, by go_num, by rw [HSU.out]; exact HO7.out, by have := HOw7.out; rw [HLL.out] at this; exact this, fun e => by have := HNil5.out (by rw [← HSU.out]; exact e); rw [HLL.out] at this; exact this, HK7.out⟩
          case measure => simp [intOf]; omega
        by_cases hn1 : 64 < n
        · rw [show (OpD.mk false x n s).bad = true by simp [OpD.bad, hn1]] at HW
          go_wp2_with (first | (go_at_call 11; refine HW.out.mono ?_; rintro _ w3 ⟨rfl, hO3, k3⟩; have HO3 := Lib.hid hO3; have HK3 := Lib.hid (k3.kept HK2.out (by rw [HB.out]; exact Nat.le_refl _)); have HOw3 := Lib.hid (HOw.out.outs HNil.out HO2.out k3); have hbs := hO3.old; have p0 := (Below.cell HK3.out (p := ⟨rb, off + k * 4, none⟩) hrb).trans HC0.out; have p1 := (Below.cell HK3.out (p := ⟨rb, off + k * 4 + 1, none⟩) hrb).trans HC1.out; have p2 := (Below.cell HK3.out (p := ⟨rb, off + k * 4 + 2, none⟩) hrb).trans HC2.out; have p3 := (Below.cell HK3.out (p := ⟨rb, off + k * 4 + 3, none⟩) hrb).trans HC3.out; clear hO3 k3 hbs) | (go_at_call 12; refine (HTD.out _).mono ?_; rintro _ w4 ⟨v4, rfl, ho4, hk4⟩; obtain ⟨va4, vc4, rfl, hI4, _⟩ := ho4.is; have HI4 := Lib.hid hI4; have HO4 := Lib.hid (OutR.keeps HO3.out hk4); have HOw4 := Lib.hid (HOw3.out.kept hk4); have HK4 := Lib.hid (HK3.out.more hk4); clear ho4 hk4 hI4) | (at_builtin; refine wp_catB rfl _ _ rfl (w0 := w) HOw4.out rfl rfl HI4.out (by have := HLn.out; have := HLm.out; omega) HK4.out ?_; intro v5 w5 ho5 hk5 hg5 hv5; have HO5 := Lib.hid (OutR.row HO4.out hg5 (rowFirst HOw4.out HNil.out)); have HNil5 := Lib.hid (fun e => nilStay HNil.out hv5 e); rw [← HSU.out] at ho5; obtain ⟨va5, vc5, rfl, hI5, _⟩ := ho5.is; rw [HLL.out] at hI5 ⊢; have HOw5 := Lib.hid ho5; have HI5 := Lib.hid hI5; have HK5 := Lib.hid hk5; clear ho5 hk5 hg5 hv5 hI5) | (go_at_call 13; refine (olen_any HO5.out).mono ?_; rintro _ _ ⟨rfl, rfl⟩; rw [HL6.out]) | (go_at_call 14; refine (string_any HO5.out (by rw [HL6.out]; have := HLb.out; omega)).mono ?_; rintro _ w6 ⟨rfl, k6⟩; rw [HPk.out]; have HI6 := Lib.hid (HI5.out.kept k6); have HO6 := Lib.hid (OutR.keeps HO5.out k6); have HOw6 := Lib.hid (HOw5.out.kept k6); have HK6 := Lib.hid (HK5.out.more k6); clear k6) | (go_at_call 15; refine (rbytes_any _ HI6.out (by rw [HLL.out]; have := HLb.out; omega)).mono ?_; rintro _ w7 ⟨rfl, k7⟩; rw [HPk2.out]; have HO7 := Lib.hid (OutR.keeps HO6.out k7); have HOw7 := Lib.hid (HOw6.out.kept k7); have HK7 := Lib.hid (HK6.out.more k7); clear k7))
          go_roundw
          case rel => exact ⟨k + 1, by rw [HN.out]; omega, by go_num, by rw [HSU.out]; exact HO7.out, by have := HOw7.out; rw [HLL.out] at this; exact this, fun e => by have := HNil5.out (by rw [← HSU.out]; exact e); rw [HLL.out] at this; exact this, HK7.out⟩
          case measure => simp [intOf]; omega
        · rw [show (OpD.mk false x n s).bad = false by simp [OpD.bad, hn0, hn1]] at HW
          go_wp2_with (first | (go_at_call 11; refine HW.out.mono ?_; rintro _ w3 ⟨rfl, hO3, k3⟩; have HO3 := Lib.hid hO3; have HK3 := Lib.hid (k3.kept HK2.out (by rw [HB.out]; exact Nat.le_refl _)); have HOw3 := Lib.hid (HOw.out.outs HNil.out HO2.out k3); have hbs := hO3.old; have p0 := (Below.cell HK3.out (p := ⟨rb, off + k * 4, none⟩) hrb).trans HC0.out; have p1 := (Below.cell HK3.out (p := ⟨rb, off + k * 4 + 1, none⟩) hrb).trans HC1.out; have p2 := (Below.cell HK3.out (p := ⟨rb, off + k * 4 + 2, none⟩) hrb).trans HC2.out; have p3 := (Below.cell HK3.out (p := ⟨rb, off + k * 4 + 3, none⟩) hrb).trans HC3.out; clear hO3 k3 hbs) | (go_at_call 12; refine (HTD.out _).mono ?_; rintro _ w4 ⟨v4, rfl, ho4, hk4⟩; obtain ⟨va4, vc4, rfl, hI4, _⟩ := ho4.is; have HI4 := Lib.hid hI4; have HO4 := Lib.hid (OutR.keeps HO3.out hk4); have HOw4 := Lib.hid (HOw3.out.kept hk4); have HK4 := Lib.hid (HK3.out.more hk4); clear ho4 hk4 hI4) | (at_builtin; refine wp_catB rfl _ _ rfl (w0 := w) HOw4.out rfl rfl HI4.out (by have := HLn.out; have := HLm.out; omega) HK4.out ?_; intro v5 w5 ho5 hk5 hg5 hv5; have HO5 := Lib.hid (OutR.row HO4.out hg5 (rowFirst HOw4.out HNil.out)); have HNil5 := Lib.hid (fun e => nilStay HNil.out hv5 e); rw [← HSU.out] at ho5; obtain ⟨va5, vc5, rfl, hI5, _⟩ := ho5.is; rw [HLL.out] at hI5 ⊢; have HOw5 := Lib.hid ho5; have HI5 := Lib.hid hI5; have HK5 := Lib.hid hk5; clear ho5 hk5 hg5 hv5 hI5) | (go_at_call 13; refine (olen_any HO5.out).mono ?_; rintro _ _ ⟨rfl, rfl⟩; rw [HL6.out]) | (go_at_call 14; refine (string_any HO5.out (by rw [HL6.out]; have := HLb.out; omega)).mono ?_; rintro _ w6 ⟨rfl, k6⟩; rw [HPk.out]; have HI6 := Lib.hid (HI5.out.kept k6); have HO6 := Lib.hid (OutR.keeps HO5.out k6); have HOw6 := Lib.hid (HOw5.out.kept k6); have HK6 := Lib.hid (HK5.out.more k6); clear k6) | (go_at_call 15; refine (rbytes_any _ HI6.out (by rw [HLL.out]; have := HLb.out; omega)).mono ?_; rintro _ w7 ⟨rfl, k7⟩; rw [HPk2.out]; have HO7 := Lib.hid (OutR.keeps HO6.out k7); have HOw7 := Lib.hid (HOw6.out.kept k7); have HK7 := Lib.hid (HK6.out.more k7); clear k7))
          go_roundw
          case rel => exact ⟨k + 1, by rw [HN.out]; omega, by go_num, by rw [HSU.out]; exact HO7.out, by have := HOw7.out; rw [HLL.out] at this; exact this, fun e => by have := HNil5.out (by rw [← HSU.out]; exact e); rw [HLL.out] at this; exact this, HK7.out⟩
          case measure => simp [intOf]; omega
      · rw [show (OpD.mk true x n s).bad = false from rfl] at HW
        go_wp2_with (first | (go_at_call 11; refine HW.out.mono ?_; rintro _ w3 ⟨rfl, hO3, k3⟩; have HO3 := Lib.hid hO3; have HK3 := Lib.hid (k3.kept HK2.out (by rw [HB.out]; exact Nat.le_refl _)); have HOw3 := Lib.hid (HOw.out.outs HNil.out HO2.out k3); have hbs := hO3.old; have p0 := (Below.cell HK3.out (p := ⟨rb, off + k * 4, none⟩) hrb).trans HC0.out; have p1 := (Below.cell HK3.out (p := ⟨rb, off + k * 4 + 1, none⟩) hrb).trans HC1.out; have p2 := (Below.cell HK3.out (p := ⟨rb, off + k * 4 + 2, none⟩) hrb).trans HC2.out; have p3 := (Below.cell HK3.out (p := ⟨rb, off + k * 4 + 3, none⟩) hrb).trans HC3.out; clear hO3 k3 hbs) | (go_at_call 12; refine (HTD.out _).mono ?_; rintro _ w4 ⟨v4, rfl, ho4, hk4⟩; obtain ⟨va4, vc4, rfl, hI4, _⟩ := ho4.is; have HI4 := Lib.hid hI4; have HO4 := Lib.hid (OutR.keeps HO3.out hk4); have HOw4 := Lib.hid (HOw3.out.kept hk4); have HK4 := Lib.hid (HK3.out.more hk4); clear ho4 hk4 hI4) | (at_builtin; refine wp_catB rfl _ _ rfl (w0 := w) HOw4.out rfl rfl HI4.out (by have := HLn.out; have := HLm.out; omega) HK4.out ?_; intro v5 w5 ho5 hk5 hg5 hv5; have HO5 := Lib.hid (OutR.row HO4.out hg5 (rowFirst HOw4.out HNil.out)); have HNil5 := Lib.hid (fun e => nilStay HNil.out hv5 e); rw [← HSU.out] at ho5; obtain ⟨va5, vc5, rfl, hI5, _⟩ := ho5.is; rw [HLL.out] at hI5 ⊢; have HOw5 := Lib.hid ho5; have HI5 := Lib.hid hI5; have HK5 := Lib.hid hk5; clear ho5 hk5 hg5 hv5 hI5) | (go_at_call 13; refine (olen_any HO5.out).mono ?_; rintro _ _ ⟨rfl, rfl⟩; rw [HL6.out]) | (go_at_call 14; refine (string_any HO5.out (by rw [HL6.out]; have := HLb.out; omega)).mono ?_; rintro _ w6 ⟨rfl, k6⟩; rw [HPk.out]; have HI6 := Lib.hid (HI5.out.kept k6); have HO6 := Lib.hid (OutR.keeps HO5.out k6); have HOw6 := Lib.hid (HOw5.out.kept k6); have HK6 := Lib.hid (HK5.out.more k6); clear k6) | (go_at_call 15; refine (rbytes_any _ HI6.out (by rw [HLL.out]; have := HLb.out; omega)).mono ?_; rintro _ w7 ⟨rfl, k7⟩; rw [HPk2.out]; have HO7 := Lib.hid (OutR.keeps HO6.out k7); have HOw7 := Lib.hid (HOw6.out.kept k7); have HK7 := Lib.hid (HK6.out.more k7); clear k7))
        go_roundw
        case rel => exact ⟨k + 1, by rw [HN.out]; omega, by go_num, by rw [HSU.out]; exact HO7.out, by have := HOw7.out; rw [HLL.out] at this; exact this, fun e => by have := HNil5.out (by rw [← HSU.out]; exact e); rw [HLL.out] at this; exact this, HK7.out⟩
        case measure => simp [intOf]; omega
    · have hkI : ¬ ((k : Int) < (len : Int)) := by omega
      go_wp2_with (go_at_call 10; refine (awake6_any _).mono ?_; rintro _ w15 ⟨rfl, k15⟩)
      go_ret
      exact ⟨rfl, HK2.out.more k15⟩
theorem off (a : Option Addr) (len cap : Nat) (l : List OpD) (w : World) (h : IsO w a len l) (hm : len ≤ maxLen) (hf : fewB l = false) :
    Calls Try.prog 3 #[.slice a len cap] w fun e w' => e = .returned (.bool true) ∧ Below w.heap.size w w' := by
  have HF := Lib.hid (few_any (cap := cap) w h hm)
  rw [hf] at HF
  clear h hm hf
  go_enter Try.func3, Try.ntmps3
  go_wp2_with (first | (go_at_call 9; refine HF.out.mono ?_; rintro _ _ ⟨rfl, rfl⟩) | (go_at_call 10; refine (awake6_any _).mono ?_; rintro _ w15 ⟨rfl, k15⟩))
  go_ret
  exact ⟨rfl, k15⟩
theorem walk (a : Option Addr) (len cap : Nat) (l : List OpD) (w : World) (h : IsO w a len l ∧ len ≤ maxLen) :
    Calls Try.prog 3 #[.slice a len cap] w fun e w' => e = .returned (.bool true) ∧ Below w.heap.size w w' := by
  cases hf : fewB l
  · exact off a len cap l w h.1 h.2 hf
  · exact core a len cap l w h.1 h.2 hf

theorem own : ownKnob Try.prog.godebug = none := by kernel_rfl
theorem laidOut : laidOutB Try.prog = true := by kernel_rfl
set_option maxRecDepth 100000 in
theorem lifted (os : Os) (started : os.Started) (H : Type) (enc : TypeId × Value → H) :
    ReturnsInHanded {} Try.checked os 3 .any (Rows.bitsWritesSpec.pre6 enc Try.prog Try.f3 Rows.bitsWritesRow.domain false) (Rows.bitsWritesSpec.post enc Try.prog Try.f3 false true false false) := by
  refine returnsInHanded_of_change (C := Try.checked) own started (by kernel_rfl) Try.func3
    (ChangeSpec.witness6 (enc := enc) (C := Try.checked) false ⟨#[], #[.slice none 0 0], []⟩ 8 (by kernel_rfl) (by kernel_rfl) (by kernel_rfl) (by kernel_rfl)) ?_
  intro W base args ds gs before hval0 hW hcnd _
  have hval : ∀ (j : Nat) t v, Try.f3.params[j]? = some t → args[j]? = some v → Value.okWide Try.prog W .any base t v := hval0
  have hW' := hW
  obtain ⟨p, q, hA0, hV, rfl, hfz, hnd⟩ := hW
  have hA : DataW.TrodAll enc Try.prog W 0 (fun _ => true) true Try.f3.params.toList args.toList ds p := hA0
  rw [Try.params3] at hA hval
  obtain ⟨v0, vs0, d0, ds0, p0, q0, hargs, rfl, rfl, h0, r0⟩ := trodAll_cons hA
  obtain ⟨rfl, rfl, rfl⟩ := trodAll_nil r0
  obtain rfl : args = #[v0] := by cases args; simp_all
  obtain ⟨rfl, rfl⟩ := trodVars_none hV
  obtain ⟨a0, len0, cap0, rfl⟩ := okWide_slice Try.underlying22 (hval 0 22 v0 rfl rfl)
  have k0 := h0
  have lt0 : ∀ x ∈ p0, x.block < W.heap.size := by obtain ⟨m, hm⟩ := k0; exact DataW.trod_lt m _ _ _ hm
  obtain ⟨z0, w0⟩ := open_oprow h0
  clear hA0 hval0
  refine (walk a0 len0 cap0 z0 W w0).mono fun e W' ⟨he, bel⟩ => ?_
  subst he
  exact ⟨_, rfl, _, _, _, [], _, [], hW', trodAll_mk1 (shut_bool Try.underlying4 _), (trodAll_cons_mk (Below.trod laidOut (by kernel_rfl) (of_decide_eq_true (by kernel_rfl)) k0 bel lt0) trodAll_mk0), rfl, bel.frame _, fun h => by cases h⟩

theorem over : Rows.bitsWritesRow.holds Try.pinned (OpenSpec.ofChange Rows.bitsWritesSpec) :=
  OpenClaim.holds_of_wide 3 Try.f3 rfl rfl rfl rfl rfl rfl rfl ⟨rfl, rfl, rfl, rfl, rfl⟩ rfl rfl rfl rfl rfl (by kernel_rfl) Try.func3 (by kernel_rfl)
    (of_decide_eq_true (by kernel_rfl)) (by unfold Func.isWrapper; first | (rw [if_pos (by decide +kernel)]; kernel_rfl) | (rw [if_neg (by decide +kernel)]; exact ⟨rfl, rfl⟩))
    (fun os started H enc _ => lifted os started H enc)

theorem proved : Rows.BitsWritesSaid := over
#print axioms proved
end Go.Proofs.Ytfkadmcndjohbaa.bitsWrites
