/-
  A joiner behind the packets of sections, none missing: what each packet gives, that one that comes twice does not count, that one of another stream does not. No function of the program.
-/
import Derived.Test.YtifbomppgflkfaaDoorJnMath
namespace Go.Proofs.YtifbomppgflkfaaDoor.Jn
open Gf Pk Pr
set_option maxRecDepth 100000
/-- Packet i of sections' packets. -/
def bdP (count : Int) (b : Bool × List UInt8) (i : Nat) : Pkt := ⟨17, b.1, (count + (i : Int)) % 16, false, st b.2⟩
theorem bdP_ck {count : Int} {b : Bool × List UInt8} {i : Nat} (h : b.2.length ≤ 184) : ckP (bdP count b i) = 0 := by
  refine ckP_ok ⟨⟨show (0 : Int) ≤ 17 by decide, show (17 : Int) ≤ 8191 by decide⟩, by show 0 ≤ (count + (i : Int)) % 16; omega, by show (count + (i : Int)) % 16 ≤ 15; omega⟩ ?_
  show ¬ 184 < (st b.2).size
  rw [st_size]; omega
/-- A joiner ahead of packet i of sections' packets of which none is missing. -/
structure JnGo (count : Int) (L : List (List UInt8)) (i b r : Nat) (J : JS) : Prop where
  pos : ∃ a, JnSt L i a b r J
  lost : J.lost = 0
  last : J.last = none ∨ ∃ q : Int × List UInt8, J.last = some q ∧ ∃ j : Nat, i = j + 1 ∧ q.1 = (count + (j : Int)) % 16
theorem JnSt.last {L : List (List UInt8)} {i a b r : Nat} {J : JS} (h : JnSt L i a b r J) (x : Option (Int × List UInt8)) (n : Int) : JnSt L i a b r ⟨J.hold, J.fol, x, n⟩ := ⟨h.pw, h.rs, h.off, h.on0, h.on1⟩
theorem JnGo.step {count : Int} {L : List (List UInt8)} {i b r : Nat} {J : JS} (h : JnGo count L i b r J) (hL : ∀ s ∈ L, okS s) (hz : ∀ x ∈ bodies L, 183 ≤ x.2.length ∧ x.2.length ≤ 184) (hi : i < (bodies L).length) :
    ∃ b' r', JnGo count L (i + 1) b' r' (feed 17 J (bdP count (bodies L)[i] i)).1 ∧ (feed 17 J (bdP count (bodies L)[i] i)).1.last = some ((count + (i : Int)) % 16, (bodies L)[i].2) ∧
      (feed 17 J (bdP count (bodies L)[i] i)).2.2 = 0 ∧ dn b r ≤ dn b' r' ∧ dn b' r' ≤ L.length ∧
      ((J.fol = true ∨ r = 0) → ((feed 17 J (bdP count (bodies L)[i] i)).1.fol = true ∨ r' = 0) ∧ (feed 17 J (bdP count (bodies L)[i] i)).2.1 = (L.take (dn b' r')).drop (dn b r)) := by
  obtain ⟨⟨a, h1⟩, h2, h4⟩ := h
  have hz1 := hz _ (List.getElem_mem hi)
  have hck : ckP (bdP count (bodies L)[i] i) = 0 := bdP_ck hz1.2
  have hbs : ls (bdP count (bodies L)[i] i).body = (bodies L)[i].2 := ls_st _
  have hsz : ¬ (bdP count (bodies L)[i] i).body.size = 0 := by show ¬ (st (bodies L)[i].2).size = 0; rw [st_size]; omega
  have hag : again J (bdP count (bodies L)[i] i) = false := by
    unfold again
    rcases h4 with h4 | ⟨q, h4, j, hj, hq⟩
    · rw [h4]
    · rw [h4]
      refine decide_eq_false fun e => ?_
      have e1 : (count + (i : Int)) % 16 = q.1 := e.1
      omega
  have hgp : gap J (bdP count (bodies L)[i] i) = false := by
    unfold gap
    rcases h4 with h4 | ⟨q, h4, j, hj, hq⟩
    · rw [h4]
    · rw [h4]
      refine decide_eq_false fun e => ?_
      have e1 : (count + (i : Int)) % 16 ≠ (q.1 + 1) % 16 := e
      omega
  have hlk : lookJ J (bdP count (bodies L)[i] i) = ⟨J.hold, J.fol, some ((count + (i : Int)) % 16, (bodies L)[i].2), J.lost⟩ := by
    unfold lookJ; rw [hgp, hbs]; rfl
  have hfd : feed 17 J (bdP count (bodies L)[i] i) = feedB ⟨J.hold, J.fol, some ((count + (i : Int)) % 16, (bodies L)[i].2), J.lost⟩ (bodies L)[i].1 (bodies L)[i].2 0 := by
    unfold feed
    rw [if_neg (by rw [hck]; exact fun e => e rfl), if_neg (show ¬ (bdP count (bodies L)[i] i).pid ≠ 17 from fun e => e rfl), if_neg (by rw [hag]; exact fun e => e.elim hsz (fun x => by cases x)), if_neg (show ¬ (bdP count (bodies L)[i] i).bad = true from fun x => by cases x), hlk, hbs]
    unfold gapE
    rw [hgp]; rfl
  have S := JnSt.step (h1.last (some ((count + (i : Int)) % 16, (bodies L)[i].2)) J.lost) hL 0 hi
  rw [← hfd] at S
  obtain ⟨s1, s2, s3, a', b', r', s4, s5, s6, s7⟩ := S
  exact ⟨b', r', ⟨⟨a', s4⟩, s2.trans h2, .inr ⟨_, s3, i, rfl, rfl⟩⟩, s3, s1, s5, s6, s7⟩
/-- Behind a Drop. -/
theorem JnGo.drops {count : Int} {L : List (List UInt8)} {i b r : Nat} {J : JS} (h : JnGo count L i b r J) : drop J = js0 ∧ JnGo count L i b r js0 := by
  obtain ⟨⟨a, h1⟩, h2, _⟩ := h
  exact ⟨by unfold drop; rw [h2]; rfl, ⟨⟨a, ⟨h1.pw, h1.rs, fun _ => rfl, fun h => Bool.noConfusion h, fun h => Bool.noConfusion h⟩⟩, rfl, .inl rfl⟩⟩
/-- A packet that comes twice does not count. -/
theorem feed_twice {J : JS} {p : Pkt} (h : ckP p = 0) (hp : p.pid = 17) (hl : J.last = some (p.count, ls p.body)) : feed 17 J p = (J, [], 0) := by
  have ha : again J p = true := by unfold again; rw [hl]; exact decide_eq_true ⟨rfl, rfl⟩
  unfold feed
  rw [if_neg (by rw [h]; exact fun e => e rfl), if_neg (by rw [hp]; exact fun e => e rfl), if_pos (.inr ha)]
/-- A packet of another stream. -/
theorem feed_other {J : JS} {p : Pkt} (h : ckP p = 0) (hp : p.pid ≠ 17) : feed 17 J p = (J, [], 14) := by
  unfold feed
  rw [if_neg (by rw [h]; exact fun e => e rfl), if_pos hp]
theorem bd_some {rest : List UInt8} (h : rest ≠ []) (r : Nat) (ns : List Nat) : bd rest r ns ≠ [] := by
  obtain ⟨f, hf⟩ : ∃ f, rest.length = f + 1 := ⟨rest.length - 1, by have := List.length_pos_iff.2 h; omega⟩
  unfold bd
  rw [hf]
  unfold bds
  rw [if_neg h]
  split
  · exact List.cons_ne_nil _ _
  · split
    · exact List.cons_ne_nil _ _
    · exact List.cons_ne_nil _ _
/-- Behind the last packet all sections are at their end. -/
theorem JnSt.done {L : List (List UInt8)} {i a b r : Nat} {J : JS} (h : JnSt L i a b r J) (hL : ∀ s ∈ L, okS s) (hi : i = (bodies L).length) : dn b r = L.length ∧ J.hold = [] := by
  have hd := h.pw.jd
  rw [hi, List.drop_length] at hd
  have ha : ¬ a < L.flatten.length := fun x => bd_some (drop_ne x) _ _ hd.symm
  have hp := h.pw.jp
  have hr := pre_rest L b
  have hb := h.pw.jb
  have r0 : r = 0 := by omega
  have s0 : ((L.map List.length).drop b).sum = 0 := by omega
  have hbl : b = L.length := by
    refine Classical.byContradiction fun x => ?_
    have hlt : b < (L.map List.length).length := by rw [List.length_map]; omega
    rw [List.drop_eq_getElem_cons hlt, List.sum_cons, List.getElem_map] at s0
    have := (okS_len (hL _ (List.getElem_mem (show b < L.length by omega)))).1
    omega
  refine ⟨by unfold dn; rw [if_pos r0]; exact hbl, ?_⟩
  by_cases hf : J.fol = true
  · exact h.on0 hf r0
  · exact h.off (by simpa using hf)
theorem JnGo.start (count : Int) (L : List (List UInt8)) : JnGo count L 0 0 0 js0 :=
  ⟨⟨0, ⟨PwSt.start L, fun h => absurd h (Nat.lt_irrefl _), fun _ => rfl, fun h => Bool.noConfusion h, fun h => Bool.noConfusion h⟩⟩, rfl, .inl rfl⟩
end Go.Proofs.YtifbomppgflkfaaDoor.Jn
