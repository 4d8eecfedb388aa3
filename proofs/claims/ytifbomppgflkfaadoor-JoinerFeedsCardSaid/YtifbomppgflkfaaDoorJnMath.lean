/-
  A joiner, as mathematics: what taking bytes gives, what a packet turns, and that the packets of sections give these sections. No function of the program.
-/
import Derived.Test.YtifbomppgflkfaaDoorPwMath
import Derived.Test.YtifbomppgflkfaaDoorScMath
namespace Go.Proofs.YtifbomppgflkfaaDoor.Jn
open Gf Pk Pr
set_option maxRecDepth 100000
/-- How many bytes the section has that begins so: the first three bytes tell it. -/
theorem need_left {s : List UInt8} (x : List UInt8) (h : 3 ≤ s.length) : Sct.need (s ++ x) = Sct.need s := by
  have h1 : ¬ (s ++ x).length < 3 := by rw [List.length_append]; omega
  have h2 : ¬ s.length < 3 := by omega
  unfold Sct.need Sct.len12 Sct.c
  rw [cf_left x (show 1 < s.length by omega), cf_left x (show 2 < s.length by omega), if_neg h1, if_neg h2]
theorem need_take {s : List UInt8} {k : Nat} (h : 3 ≤ k) (hk : k ≤ s.length) : Sct.need (s.take k) = Sct.need s := by
  have := need_left (s := s.take k) (s.drop k) (by rw [List.length_take]; omega)
  rw [List.take_append_drop] at this
  exact this.symm
/-- What is answered of bytes that are taken, what is held behind them, whether it follows on, and whether all was right. -/
structure Tk where
  out : List (List UInt8)
  hold : List UInt8
  fol : Bool
  ok : Bool
def tkF : Nat → List UInt8 → Tk
  | 0, l => ⟨[], l, true, true⟩
  | f + 1, l =>
    if l = [] then ⟨[], [], true, true⟩ else
    if cf l 0 = 255 then ⟨[], [], false, true⟩ else
    if l.length < 3 then ⟨[], l, true, true⟩ else
    if (Sct.need l).2 ≠ 0 then ⟨[], [], false, false⟩ else
    if l.length < (Sct.need l).1.toNat then ⟨[], l, true, true⟩ else
    ⟨l.take (Sct.need l).1.toNat :: (tkF f (l.drop (Sct.need l).1.toNat)).out, (tkF f (l.drop (Sct.need l).1.toNat)).hold, (tkF f (l.drop (Sct.need l).1.toNat)).fol, (tkF f (l.drop (Sct.need l).1.toNat)).ok⟩
theorem tkF_nil (f : Nat) : tkF f [] = ⟨[], [], true, true⟩ := by cases f <;> rfl
theorem tkF_end {f : Nat} {l : List UInt8} (h : l ≠ []) (k : cf l 0 = 255) : tkF (f + 1) l = ⟨[], [], false, true⟩ := by
  show (if l = [] then _ else _) = _; rw [if_neg h, if_pos k]
theorem tkF_few {f : Nat} {l : List UInt8} (h : l ≠ []) (k : cf l 0 ≠ 255) (g : l.length < 3) : tkF (f + 1) l = ⟨[], l, true, true⟩ := by
  show (if l = [] then _ else _) = _; rw [if_neg h, if_neg k, if_pos g]
theorem tkF_bad {f : Nat} {l : List UInt8} (k : cf l 0 ≠ 255) (g : ¬ l.length < 3) (e : (Sct.need l).2 ≠ 0) : tkF (f + 1) l = ⟨[], [], false, false⟩ := by
  show (if l = [] then _ else _) = _; rw [if_neg (by rintro rfl; simp at g), if_neg k, if_neg g, if_pos e]
theorem tkF_wait {f : Nat} {l : List UInt8} (k : cf l 0 ≠ 255) (g : ¬ l.length < 3) (e : (Sct.need l).2 = 0) (n : l.length < (Sct.need l).1.toNat) : tkF (f + 1) l = ⟨[], l, true, true⟩ := by
  show (if l = [] then _ else _) = _; rw [if_neg (by rintro rfl; simp at g), if_neg k, if_neg g, if_neg (by rw [e]; exact fun x => x rfl), if_pos n]
theorem tkF_sec {f : Nat} {l : List UInt8} (k : cf l 0 ≠ 255) (g : ¬ l.length < 3) (e : (Sct.need l).2 = 0) (n : ¬ l.length < (Sct.need l).1.toNat) :
    tkF (f + 1) l = ⟨l.take (Sct.need l).1.toNat :: (tkF f (l.drop (Sct.need l).1.toNat)).out, (tkF f (l.drop (Sct.need l).1.toNat)).hold, (tkF f (l.drop (Sct.need l).1.toNat)).fol, (tkF f (l.drop (Sct.need l).1.toNat)).ok⟩ := by
  show (if l = [] then _ else _) = _; rw [if_neg (by rintro rfl; simp at g), if_neg k, if_neg g, if_neg (by rw [e]; exact fun x => x rfl), if_neg n]
theorem need_ge {l : List UInt8} (e : (Sct.need l).2 = 0) : 12 ≤ (Sct.need l).1.toNat ∧ (Sct.need l).1.toNat ≤ 4096 ∧ (Sct.need l).1 = (((Sct.need l).1.toNat : Nat) : Int) := by
  obtain ⟨_, _, h1, h2, h3⟩ := Sct.need_good e
  rw [h3]; omega
theorem tkF_more : ∀ (f g : Nat) (l : List UInt8), l.length ≤ f → f ≤ g → tkF f l = tkF g l
  | 0, g, l, h, _ => by
    have : l = [] := List.length_eq_zero_iff.1 (by omega)
    subst this; rw [tkF_nil, tkF_nil]
  | f + 1, 0, _, _, k => by omega
  | f + 1, g + 1, l, h, k => by
    by_cases h0 : l = []
    · subst h0; rw [tkF_nil, tkF_nil]
    by_cases h1 : cf l 0 = 255
    · rw [tkF_end h0 h1, tkF_end h0 h1]
    by_cases h2 : l.length < 3
    · rw [tkF_few h0 h1 h2, tkF_few h0 h1 h2]
    by_cases h3 : (Sct.need l).2 = 0
    · by_cases h4 : l.length < (Sct.need l).1.toNat
      · rw [tkF_wait h1 h2 h3 h4, tkF_wait h1 h2 h3 h4]
      · have := need_ge h3
        rw [tkF_sec h1 h2 h3 h4, tkF_sec h1 h2 h3 h4, tkF_more f g _ (by rw [List.length_drop]; omega) (by omega)]
    · rw [tkF_bad h1 h2 h3, tkF_bad h1 h2 h3]
def tk (l : List UInt8) : Tk := tkF l.length l
theorem tk_nil : tk [] = ⟨[], [], true, true⟩ := rfl
theorem tk_some {l : List UInt8} (h : l ≠ []) : ∃ f, l.length = f + 1 := ⟨l.length - 1, by have := List.length_pos_iff.2 h; omega⟩
theorem tk_end {l : List UInt8} (h : l ≠ []) (k : cf l 0 = 255) : tk l = ⟨[], [], false, true⟩ := by obtain ⟨f, hf⟩ := tk_some h; unfold tk; rw [hf]; exact tkF_end h k
theorem tk_few {l : List UInt8} (h : l ≠ []) (k : cf l 0 ≠ 255) (g : l.length < 3) : tk l = ⟨[], l, true, true⟩ := by obtain ⟨f, hf⟩ := tk_some h; unfold tk; rw [hf]; exact tkF_few h k g
theorem tk_bad {l : List UInt8} (k : cf l 0 ≠ 255) (g : ¬ l.length < 3) (e : (Sct.need l).2 ≠ 0) : tk l = ⟨[], [], false, false⟩ := by
  obtain ⟨f, hf⟩ := tk_some (l := l) (by rintro rfl; simp at g); unfold tk; rw [hf]; exact tkF_bad k g e
theorem tk_wait {l : List UInt8} (k : cf l 0 ≠ 255) (g : ¬ l.length < 3) (e : (Sct.need l).2 = 0) (n : l.length < (Sct.need l).1.toNat) : tk l = ⟨[], l, true, true⟩ := by
  obtain ⟨f, hf⟩ := tk_some (l := l) (by rintro rfl; simp at g); unfold tk; rw [hf]; exact tkF_wait k g e n
theorem tk_sec {l : List UInt8} (k : cf l 0 ≠ 255) (g : ¬ l.length < 3) (e : (Sct.need l).2 = 0) (n : ¬ l.length < (Sct.need l).1.toNat) :
    tk l = ⟨l.take (Sct.need l).1.toNat :: (tk (l.drop (Sct.need l).1.toNat)).out, (tk (l.drop (Sct.need l).1.toNat)).hold, (tk (l.drop (Sct.need l).1.toNat)).fol, (tk (l.drop (Sct.need l).1.toNat)).ok⟩ := by
  obtain ⟨f, hf⟩ := tk_some (l := l) (by rintro rfl; simp at g)
  have := need_ge e
  have e2 : tk (l.drop (Sct.need l).1.toNat) = tkF f (l.drop (Sct.need l).1.toNat) := tkF_more _ _ _ (Nat.le_refl _) (by rw [List.length_drop]; omega)
  rw [e2]; unfold tk; rw [hf]; exact tkF_sec k g e n
/-- What is held is less than a section; and nothing, where it does not follow on. -/
theorem tkF_hold : ∀ (f : Nat) (l : List UInt8), l.length ≤ f → (tkF f l).hold.length < 4096 ∧ ((tkF f l).fol = false → (tkF f l).hold = [])
  | 0, l, h => by
    have : l = [] := List.length_eq_zero_iff.1 (by omega)
    subst this; exact ⟨by decide, fun x => by cases x⟩
  | f + 1, l, h => by
    by_cases h0 : l = []
    · subst h0; rw [tkF_nil]; exact ⟨by decide, fun x => by cases x⟩
    by_cases h1 : cf l 0 = 255
    · rw [tkF_end h0 h1]; exact ⟨by decide, fun _ => rfl⟩
    by_cases h2 : l.length < 3
    · rw [tkF_few h0 h1 h2]; exact ⟨by show l.length < 4096; omega, fun x => by cases x⟩
    by_cases h3 : (Sct.need l).2 = 0
    · have hn := need_ge h3
      by_cases h4 : l.length < (Sct.need l).1.toNat
      · rw [tkF_wait h1 h2 h3 h4]; exact ⟨by show l.length < 4096; omega, fun x => by cases x⟩
      · rw [tkF_sec h1 h2 h3 h4]
        exact tkF_hold f _ (by rw [List.length_drop]; omega)
    · rw [tkF_bad h1 h2 h3]; exact ⟨by decide, fun _ => rfl⟩
theorem tk_hold (l : List UInt8) : (tk l).hold.length < 4096 ∧ ((tk l).fol = false → (tk l).hold = []) := tkF_hold _ l (Nat.le_refl _)
/-- A joiner: what it holds, whether it follows, what it has seen last (a Count and a body), how often something was missing. -/
structure JS where
  hold : List UInt8
  fol : Bool
  last : Option (Int × List UInt8)
  lost : Int
def js0 : JS := ⟨[], false, none, 0⟩
def drop (J : JS) : JS := ⟨[], false, none, J.lost⟩
/-- It takes bytes. -/
def takes (J : JS) (s : List UInt8) : JS := ⟨(tk (J.hold ++ s)).hold, (tk (J.hold ++ s)).fol, J.last, J.lost⟩
/-- Is something missing ahead of a packet? -/
def gap (J : JS) (p : Pkt) : Bool := match J.last with
  | none => false
  | some q => decide (p.count ≠ (q.1 + 1) % 16)
/-- It is what has been seen last. -/
def again (J : JS) (p : Pkt) : Bool := match J.last with
  | none => false
  | some q => decide (p.count = q.1 ∧ ls p.body = q.2)
/-- Behind the looks at what has been seen. -/
def lookJ (J : JS) (p : Pkt) : JS := if gap J p then ⟨[], false, some (p.count, ls p.body), J.lost + 1⟩ else ⟨J.hold, J.fol, some (p.count, ls p.body), J.lost⟩
def gapE (J : JS) (p : Pkt) : Int := if gap J p then 21 else 0
/-- What a packet's body gives. -/
def feedB (J : JS) (start : Bool) (b : List UInt8) (e : Int) : JS × List (List UInt8) × Int :=
  if start = false then
    (if J.fol = false then (J, [], e) else (takes J b, (tk (J.hold ++ b)).out, if (tk (J.hold ++ b)).ok then e else 12))
  else if b.length - 1 < (cf b 0).toNat then (⟨[], false, J.last, J.lost⟩, [], 12)
  else
    (⟨(tk (b.drop (1 + (cf b 0).toNat))).hold, (tk (b.drop (1 + (cf b 0).toNat))).fol, J.last, J.lost⟩,
      (if J.fol then (tk (J.hold ++ (b.drop 1).take (cf b 0).toNat)).out else []) ++ (tk (b.drop (1 + (cf b 0).toNat))).out,
      if (J.fol = false ∨ (tk (J.hold ++ (b.drop 1).take (cf b 0).toNat)).ok = true) ∧ (tk (b.drop (1 + (cf b 0).toNat))).ok = true then e else 12)
/-- What a packet turns, and what is answered. -/
def feed (pid : Int) (J : JS) (p : Pkt) : JS × List (List UInt8) × Int :=
  if ckP p ≠ 0 then (J, [], ckP p) else
  if p.pid ≠ pid then (J, [], 14) else
  if p.body.size = 0 ∨ again J p = true then (J, [], 0) else
  if p.bad = true then (⟨[], false, none, J.lost + 1⟩, [], 21) else
  feedB (lookJ J p) p.start (ls p.body) (gapE J p)
/-- A section that may be packed. -/
def okS (s : List UInt8) : Prop := (Sct.need s).2 = 0 ∧ (Sct.need s).1 = (s.length : Int) ∧ cf s 0 ≠ 255
theorem okS_len {s : List UInt8} (h : okS s) : 12 ≤ s.length ∧ s.length ≤ 4096 := by
  have := need_ge h.1
  have := h.2.1
  omega
/-- A section, and what is behind it. -/
theorem tk_cons {s x : List UInt8} (h : okS s) : tk (s ++ x) = ⟨s :: (tk x).out, (tk x).hold, (tk x).fol, (tk x).ok⟩ := by
  have hl := okS_len h
  have e := need_left (s := s) x (by omega)
  have hn : (Sct.need (s ++ x)).1.toNat = s.length := by rw [e, h.2.1]; rfl
  have := tk_sec (l := s ++ x) (by rw [cf_left x (by omega)]; exact h.2.2) (by rw [List.length_append]; omega) (by rw [e]; exact h.1) (by rw [hn, List.length_append]; omega)
  rw [hn, List.take_left, List.drop_left] at this
  exact this
/-- A section's beginning. -/
theorem tk_part {s : List UInt8} (h : okS s) {k : Nat} (h0 : 0 < k) (hk : k < s.length) : tk (s.take k) = ⟨[], s.take k, true, true⟩ := by
  have hl := okS_len h
  have hne : s.take k ≠ [] := fun e => by have := congrArg List.length e; rw [List.length_take, List.length_nil] at this; omega
  have hc : cf (s.take k) 0 ≠ 255 := by rw [cf_take (by omega)]; exact h.2.2
  by_cases h3 : k < 3
  · exact tk_few hne hc (by rw [List.length_take]; omega)
  · have e := need_take (s := s) (k := k) (by omega) (by omega)
    exact tk_wait hc (by rw [List.length_take]; omega) (by rw [e]; exact h.1) (by rw [e, h.2.1, List.length_take]; show _ < s.length; omega)
theorem tk_fill {k : Nat} : (tk (List.replicate k 255)).out = [] ∧ (tk (List.replicate k 255)).hold = [] ∧ (tk (List.replicate k 255)).ok = true := by
  cases k with
  | zero => exact ⟨rfl, rfl, rfl⟩
  | succ k => rw [tk_end (by simp) (by simp [cf])]; exact ⟨rfl, rfl, rfl⟩
/-- So many bytes of sections, which begin with a section's: those that are whole, and the beginning of the next one. -/
theorem tk_eat : ∀ (L : List (List UInt8)) (m : Nat), (∀ s ∈ L, okS s) → m ≤ L.flatten.length →
    ∃ c, c ≤ L.length ∧ (eat (L.map List.length) m).2 = (L.map List.length).drop (c + (if (eat (L.map List.length) m).1 = 0 then 0 else 1)) ∧ (L.flatten.take m).length = m ∧
      (((eat (L.map List.length) m).1 = 0 ∧ (L.take c).flatten = L.flatten.take m ∧ tk (L.flatten.take m) = ⟨L.take c, [], true, true⟩) ∨
       ∃ hc : c < L.length, 0 < (eat (L.map List.length) m).1 ∧ (eat (L.map List.length) m).1 < L[c].length ∧ tk (L.flatten.take m) = ⟨L.take c, L[c].take (L[c].length - (eat (L.map List.length) m).1), true, true⟩)
  | [], m, _, h => by
    have : m = 0 := by simpa using h
    subst this
    exact ⟨0, Nat.le_refl _, rfl, rfl, .inl ⟨rfl, rfl, rfl⟩⟩
  | s :: L, m, hL, h => by
    have hs := hL s (List.mem_cons_self ..)
    have hl := okS_len hs
    rw [List.flatten_cons] at h ⊢
    rw [List.map_cons]
    have hlt : ((s ++ L.flatten).take m).length = m := by rw [List.length_take]; omega
    by_cases h0 : m = 0
    · subst h0
      rw [eat_zero]
      exact ⟨0, Nat.zero_le _, rfl, hlt, .inl ⟨rfl, rfl, rfl⟩⟩
    by_cases h1 : m < s.length
    · rw [eat_less _ h0 h1]
      refine ⟨0, Nat.zero_le _, ?_, hlt, .inr ⟨by simp, ?_, ?_, ?_⟩⟩
      · simp only; rw [if_neg (by omega)]; rfl
      · simp only; omega
      · simp only [List.getElem_cons_zero]; omega
      · simp only [List.getElem_cons_zero]
        rw [List.take_append_of_le_length (by omega), tk_part hs (by omega) h1, List.take_zero, show s.length - (s.length - m) = m by omega]
    · rw [eat_more _ h0 h1]
      rw [List.length_append] at h
      obtain ⟨c, c1, c2, c3, c4⟩ := tk_eat L (m - s.length) (fun x hx => hL x (List.mem_cons_of_mem _ hx)) (by omega)
      have et : (s ++ L.flatten).take m = s ++ L.flatten.take (m - s.length) := by rw [List.take_append, List.take_of_length_le (by omega)]
      refine ⟨c + 1, by rw [List.length_cons]; omega, ?_, hlt, ?_⟩
      · rw [c2, show c + 1 + (if (eat (L.map List.length) (m - s.length)).1 = 0 then 0 else 1) = (c + (if (eat (L.map List.length) (m - s.length)).1 = 0 then 0 else 1)) + 1 by omega, List.drop_succ_cons]
      · rw [et, tk_cons hs]
        rcases c4 with ⟨d1, d2, d3⟩ | ⟨hc, d1, d2, d3⟩
        · exact .inl ⟨d1, by rw [List.take_succ_cons, List.flatten_cons, d2], by rw [d3, List.take_succ_cons]⟩
        · exact .inr ⟨by rw [List.length_cons]; omega, d1, by rw [List.getElem_cons_succ]; exact d2, by rw [d3, List.take_succ_cons, List.getElem_cons_succ]⟩
theorem tk_flat : ∀ (L : List (List UInt8)) (x : List UInt8), (∀ s ∈ L, okS s) → tk (L.flatten ++ x) = ⟨L ++ (tk x).out, (tk x).hold, (tk x).fol, (tk x).ok⟩
  | [], _, _ => rfl
  | s :: L, x, h => by
    rw [List.flatten_cons, List.append_assoc, tk_cons (h s (List.mem_cons_self ..)), tk_flat L x fun y hy => h y (List.mem_cons_of_mem _ hy)]; rfl
/-- How many sections are at their end ahead of a packet. -/
def dn (b r : Nat) : Nat := if r = 0 then b else b - 1
/-- A joiner ahead of packet i of sections' packets: it holds the beginning of the section that is begun, or it does not follow. -/
structure JnSt (L : List (List UInt8)) (i a b r : Nat) (J : JS) : Prop where
  pw : PwSt L i a b r
  rs : 0 < r → ∃ h : b - 1 < L.length, 0 < b ∧ r < L[b - 1].length
  off : J.fol = false → J.hold = []
  on0 : J.fol = true → r = 0 → J.hold = []
  on1 : J.fol = true → 0 < r → ∀ h : b - 1 < L.length, J.hold = L[b - 1].take (L[b - 1].length - r)
theorem flat_part (L : List (List UInt8)) {k : Nat} (h : k < L.length) : L.flatten = (L.take k).flatten ++ (L[k] ++ (L.drop (k + 1)).flatten) := by
  conv => lhs; rw [← List.take_append_drop k L, List.drop_eq_getElem_cons h]
  rw [List.flatten_append, List.flatten_cons]
theorem rest0 {L : List (List UInt8)} {i a b : Nat} (h : PwSt L i a b 0) : L.flatten.drop a = (L.drop b).flatten := by
  have h1 := h.jp
  have h2 := pre_flat L b
  have h3 : L.flatten = (L.take b).flatten ++ (L.drop b).flatten := by rw [← List.flatten_append, List.take_append_drop]
  rw [h3, show a = (L.take b).flatten.length by omega, List.drop_left]
theorem rest1 {L : List (List UInt8)} {i a b r : Nat} (h : PwSt L i a b r) (hb : b - 1 < L.length) (h0 : 0 < b) (hr : r < L[b - 1].length) :
    L.flatten.drop a = L[b - 1].drop (L[b - 1].length - r) ++ (L.drop b).flatten := by
  have h1 := h.jp
  have h2 := pre_flat L (b - 1)
  have h3 := pre_succ L hb
  rw [show b - 1 + 1 = b by omega] at h3
  have h4 := flat_part L hb
  rw [show b - 1 + 1 = b by omega] at h4
  conv => lhs; rw [h4]
  rw [List.drop_append, List.drop_of_length_le (by omega), List.nil_append, h2, List.drop_append, show a - pre L (b - 1) = L[b - 1].length - r by omega, show L[b - 1].length - r - L[b - 1].length = 0 by omega, List.drop_zero]
theorem pre_rest (L : List (List UInt8)) (b : Nat) : pre L b + ((L.map List.length).drop b).sum = L.flatten.length := by
  rw [← pre_all]
  unfold pre
  rw [← List.sum_append, List.take_append_drop, List.take_of_length_le (by rw [List.length_map]; exact Nat.le_refl _)]
theorem take_mid (s : List UInt8) {r m : Nat} : s.take (s.length - r) ++ (s.drop (s.length - r)).take m = s.take (s.length - r + m) := by
  rw [List.take_add]
theorem one_more (L : List (List UInt8)) {b : Nat} (h : b - 1 < L.length) (h0 : 0 < b) : (L.take b).drop (b - 1) = [L[b - 1]] := by
  obtain ⟨k, rfl⟩ : ∃ k, b = k + 1 := ⟨b - 1, by omega⟩
  simp only [Nat.add_sub_cancel] at h ⊢
  rw [List.take_add_one, List.getElem?_eq_getElem h, List.drop_append, List.drop_of_length_le (by rw [List.length_take]; omega), List.length_take, show k - min k L.length = 0 by omega]; rfl
theorem more_c (L : List (List UInt8)) (b c : Nat) : (L.take (b + c)).drop b = (L.drop b).take c := by
  rw [List.drop_take, Nat.add_sub_cancel_left]
/-- What a packet of sections' packets gives. -/
structure Step (L : List (List UInt8)) (i b r : Nat) (J : JS) (e : Int) (q : JS × List (List UInt8) × Int) : Prop where
  e : q.2.2 = e
  lost : q.1.lost = J.lost
  last : q.1.last = J.last
  st : ∃ a' b' r', JnSt L (i + 1) a' b' r' q.1 ∧ dn b r ≤ dn b' r' ∧ dn b' r' ≤ L.length ∧ ((J.fol = true ∨ r = 0) → (q.1.fol = true ∨ r' = 0) ∧ q.2.1 = (L.take (dn b' r')).drop (dn b r))
theorem JnSt.step {L : List (List UInt8)} {i a b r : Nat} {J : JS} (h : JnSt L i a b r J) (hL : ∀ s ∈ L, okS s) (e : Int) (hi : i < (bodies L).length) :
    Step L i b r J e (feedB J (bodies L)[i].1 (bodies L)[i].2 e) := by
  have hd := h.pw.jd
  have he : (bodies L).drop i = (bodies L)[i] :: (bodies L).drop (i + 1) := List.drop_eq_getElem_cons hi
  rw [he] at hd
  have hp := h.pw.jp
  have ha : a < L.flatten.length := by
    refine Classical.byContradiction fun x => ?_
    rw [show L.flatten.drop a = [] from List.drop_eq_nil_of_le (by omega), bd_nil] at hd; cases hd
  have h2 := drop_ne ha
  have hlen : (L.flatten.drop a).length = L.flatten.length - a := List.length_drop
  have hpr := pre_rest L b
  have hjb := h.pw.jb
  by_cases k : 183 ≤ r
  · rw [bd_mid h2 k] at hd
    injection hd with e1 e2
    obtain ⟨hb, h0, hr⟩ := h.rs (by omega)
    have hs := hL _ (List.getElem_mem hb)
    have hR := rest1 h.pw hb h0 hr
    have hpw : PwSt L (i + 1) (a + min r 184) b (r - min r 184) := ⟨by omega, by rw [e2, List.drop_drop], by omega, hjb, by omega⟩
    rw [e1]
    unfold feedB
    rw [if_pos rfl]
    by_cases hf : J.fol = false
    · rw [if_pos hf]
      refine ⟨rfl, rfl, rfl, a + min r 184, b, r - min r 184, ⟨hpw, fun x => ⟨hb, h0, by omega⟩, h.off, fun x => (by rw [hf] at x; cases x), fun x => (by rw [hf] at x; cases x)⟩, ?_, ?_, fun x => ?_⟩
      · unfold dn; rw [if_neg (by omega)]; split <;> omega
      · unfold dn; split <;> omega
      · rcases x with x | x
        · rw [hf] at x; cases x
        · omega
    · rw [if_neg hf]
      have hf' : J.fol = true := by cases x : J.fol with | true => rfl | false => exact absurd x hf
      have hh := h.on1 hf' (by omega) hb
      have hbody : J.hold ++ (L.flatten.drop a).take (min r 184) = L[b - 1].take (L[b - 1].length - r + min r 184) := by
        rw [hh, hR, List.take_append_of_le_length (by rw [List.length_drop]; omega), take_mid _]
      by_cases k4 : r ≤ 184
      · have ht : tk (J.hold ++ (L.flatten.drop a).take (min r 184)) = ⟨[L[b - 1]], [], true, true⟩ := by
          rw [hbody, show L[b - 1].length - r + min r 184 = L[b - 1].length by omega, List.take_length]
          have := tk_cons (x := []) hs
          rw [List.append_nil] at this; exact this
        have hz : r - min r 184 = 0 := by omega
        rw [hz] at hpw
        unfold takes
        simp only [ht, if_true]
        refine ⟨rfl, rfl, rfl, _, _, _, ⟨hpw, fun x => by omega, fun _ => rfl, fun _ _ => rfl, fun _ x => by omega⟩, ?_, ?_, fun _ => ⟨.inl rfl, ?_⟩⟩
        · unfold dn; rw [if_neg (by omega), if_pos rfl]; omega
        · unfold dn; rw [if_pos rfl]; exact hjb
        · unfold dn; rw [if_neg (by omega), if_pos rfl, one_more L hb h0]
      · have hm : L[b - 1].length - r + min r 184 = L[b - 1].length - (r - min r 184) := by omega
        have ht : tk (J.hold ++ (L.flatten.drop a).take (min r 184)) = ⟨[], L[b - 1].take (L[b - 1].length - (r - min r 184)), true, true⟩ := by
          rw [hbody, hm]
          exact tk_part hs (by omega) (by omega)
        unfold takes
        simp only [ht, if_true]
        refine ⟨rfl, rfl, rfl, _, _, _, ⟨hpw, fun x => ⟨hb, h0, by omega⟩, fun x => (by cases x), fun _ x => by omega, fun _ _ _ => rfl⟩, ?_, ?_, fun _ => ⟨.inl rfl, ?_⟩⟩
        · unfold dn; rw [if_neg (by omega), if_neg (by omega)]; exact Nat.le_refl _
        · unfold dn; rw [if_neg (by omega)]; omega
        · unfold dn; rw [if_neg (by omega), if_neg (by omega), List.drop_eq_nil_of_le (by rw [List.length_take]; omega)]
  by_cases h0 : 0 < r ∧ (L.map List.length).drop b = []
  · obtain ⟨hr0, hn⟩ := h0
    rw [hn, bd_end h2 k hr0] at hd
    injection hd with e1 e2
    obtain ⟨hb, h0, hr⟩ := h.rs hr0
    have hs := hL _ (List.getElem_mem hb)
    have hR := rest1 h.pw hb h0 hr
    have hbl : b = L.length := by
      have := congrArg List.length hn
      rw [List.length_drop, List.length_map, List.length_nil] at this; omega
    have hF : (L.drop b).flatten = [] := by rw [List.drop_eq_nil_of_le (by omega)]; rfl
    rw [hF, List.append_nil] at hR
    rw [hn] at hpr
    simp only [List.sum_nil] at hpr
    have hpw : PwSt L (i + 1) L.flatten.length b 0 := ⟨by omega, by rw [e2, List.drop_length, bd_nil], Nat.le_refl _, hjb, by omega⟩
    rw [e1]
    unfold feedB
    rw [if_pos rfl]
    by_cases hf : J.fol = false
    · rw [if_pos hf]
      refine ⟨rfl, rfl, rfl, _, _, _, ⟨hpw, fun x => by omega, h.off, fun x => (by rw [hf] at x; cases x), fun x => (by rw [hf] at x; cases x)⟩, ?_, ?_, fun x => ?_⟩
      · unfold dn; rw [if_neg (by omega), if_pos rfl]; omega
      · unfold dn; rw [if_pos rfl]; omega
      · rcases x with x | x
        · rw [hf] at x; cases x
        · omega
    · rw [if_neg hf]
      have hf' : J.fol = true := by cases x : J.fol with | true => rfl | false => exact absurd x hf
      have hh := h.on1 hf' hr0 hb
      obtain ⟨z1, z2, z3⟩ := tk_fill (k := 184 - (L.flatten.drop a).length)
      have ht : tk (J.hold ++ f184 (L.flatten.drop a)) = ⟨[L[b - 1]], [], (tk (List.replicate (184 - (L.flatten.drop a).length) 255)).fol, true⟩ := by
        unfold f184
        rw [hh, ← List.append_assoc]
        conv => lhs; arg 1; arg 1; arg 2; rw [hR]
        rw [List.take_append_drop, tk_cons hs, z1, z2, z3]
      unfold takes
      simp only [ht, if_true]
      refine ⟨rfl, rfl, rfl, _, _, _, ⟨hpw, fun x => by omega, fun _ => rfl, fun _ _ => rfl, fun _ x => by omega⟩, ?_, ?_, fun _ => ⟨.inr rfl, ?_⟩⟩
      · unfold dn; rw [if_neg (by omega), if_pos rfl]; omega
      · unfold dn; rw [if_pos rfl]; omega
      · unfold dn; rw [if_neg (by omega), if_pos rfl, one_more L hb h0]
  · rw [bd_start h2 k h0] at hd
    injection hd with e1 e2
    have hm1 : (L.map List.length).drop b = (L.drop b).map List.length := by rw [List.map_drop]
    rw [hm1] at e2 hpr
    obtain ⟨M, hM⟩ : ∃ M, min 183 (L.flatten.drop a).length = M := ⟨_, rfl⟩
    rw [hM] at e2
    have hFl : (L.drop b).flatten.length = ((L.drop b).map List.length).sum := by rw [List.length_flatten]
    obtain ⟨F, hF⟩ : ∃ F, (L.drop b).flatten = F := ⟨_, rfl⟩
    obtain ⟨X, hXl, hX, hA⟩ : ∃ X : List UInt8, X.length = r ∧ L.flatten.drop a = X ++ F ∧ (J.fol = true → (tk (J.hold ++ X)).ok = true ∧ (tk (J.hold ++ X)).out = (L.take b).drop (dn b r)) := by
      by_cases hr0 : r = 0
      · have hr0' := hr0
        subst hr0'
        refine ⟨[], rfl, by rw [← hF]; exact rest0 h.pw, fun hf => ?_⟩
        rw [h.on0 hf rfl]
        exact ⟨rfl, by unfold dn; rw [if_pos rfl, List.drop_eq_nil_of_le (by rw [List.length_take]; omega)]; rfl⟩
      · obtain ⟨hb, h0, hr⟩ := h.rs (by omega)
        have hs := hL _ (List.getElem_mem hb)
        refine ⟨L[b - 1].drop (L[b - 1].length - r), by rw [List.length_drop]; omega, by rw [← hF]; exact rest1 h.pw hb h0 hr, fun hf => ?_⟩
        rw [h.on1 hf (by omega) hb, List.take_append_drop]
        have := tk_cons (x := []) hs
        rw [List.append_nil] at this
        rw [this]
        exact ⟨rfl, by unfold dn; rw [if_neg hr0, one_more L hb h0]; rfl⟩
    have hXF : r + F.length = L.flatten.length - a := by rw [← hlen, hX, List.length_append, hXl]
    rw [hF] at hFl
    have hMr : r ≤ M ∧ M ≤ 183 ∧ M - r ≤ F.length ∧ (M < 183 → M - r = F.length ∧ a + M = L.flatten.length) := by
      rw [hlen] at hM; omega
    have hB : f184 (UInt8.ofNat r :: (L.flatten.drop a).take 183) = UInt8.ofNat r :: ((L.flatten.drop a).take 183 ++ List.replicate (183 - M) 255) := by
      unfold f184
      rw [List.cons_append, List.length_cons, List.length_take, hM, show 184 - (M + 1) = 183 - M by omega]
    have hT : (L.flatten.drop a).take 183 = X ++ F.take (M - r) := by
      rw [hX, List.take_append, List.take_of_length_le (by omega), hXl]
      congr 1
      by_cases h : M < 183
      · rw [List.take_of_length_le (by omega), List.take_of_length_le (by omega)]
      · rw [show 183 - r = M - r by omega]
    obtain ⟨pad, hpad⟩ : ∃ p, List.replicate (183 - M) (255 : UInt8) = p := ⟨_, rfl⟩
    have hpf : (tk pad).out = [] ∧ (tk pad).hold = [] ∧ (tk pad).ok = true := by rw [← hpad]; exact tk_fill
    rw [hT, hpad] at hB
    have hr8 : (UInt8.ofNat r).toNat = r := toNat_of (by omega)
    have hBl : (UInt8.ofNat r :: (X ++ F.take (M - r) ++ pad)).length - 1 = 183 := by
      rw [List.length_cons, List.length_append, List.length_append, List.length_take, hXl, ← hpad, List.length_replicate]; omega
    have hB1 : ((UInt8.ofNat r :: (X ++ F.take (M - r) ++ pad)).drop 1).take r = X := by
      rw [List.drop_succ_cons, List.drop_zero, List.append_assoc, List.take_append_of_le_length (by omega), List.take_of_length_le (by omega)]
    have hB2 : (UInt8.ofNat r :: (X ++ F.take (M - r) ++ pad)).drop (1 + r) = F.take (M - r) ++ pad := by
      rw [Nat.add_comm 1 r, List.drop_succ_cons, List.append_assoc, ← hXl, List.drop_left]
    have hc0 : cf (UInt8.ofNat r :: (X ++ F.take (M - r) ++ pad)) 0 = UInt8.ofNat r := rfl
    rw [e1]
    simp only [hT, hB]
    unfold feedB
    rw [if_neg (by decide), hc0, hr8, hBl, hB1, hB2, if_neg (by omega)]
    obtain ⟨c, c1, c2, c3, c4⟩ := tk_eat (L.drop b) (M - r) (fun s hs => hL s (List.mem_of_mem_drop hs)) (by rw [hF]; exact hMr.2.2.1)
    have hes := eat_sum ((L.drop b).map List.length) (M - r) (by rw [← hFl]; exact hMr.2.2.1)
    rw [List.length_drop] at c1
    obtain ⟨r', hr'⟩ : ∃ r', (eat ((L.drop b).map List.length) (M - r)).1 = r' := ⟨_, rfl⟩
    rw [hr'] at c2 c4 e2 hes
    rw [hF] at c4
    have hd2 : (L.flatten.drop a).drop 183 = L.flatten.drop (a + M) := by
      rw [List.drop_drop]
      by_cases h : M < 183
      · rw [List.drop_eq_nil_of_le (by omega), List.drop_eq_nil_of_le (by omega)]
      · rw [show M = 183 by omega]
    rw [hd2, c2, ← hm1, List.drop_drop] at e2
    rw [c2, ← hm1, List.drop_drop] at hes
    rw [← hm1] at hpr hFl
    have hpr2 := pre_rest L (b + (c + if r' = 0 then 0 else 1))
    have hout : (J.fol = true ∨ r = 0) → (if J.fol = true then (tk (J.hold ++ X)).out else []) = (L.take b).drop (dn b r) := by
      rintro (hf | hf)
      · rw [if_pos hf]; exact (hA hf).2
      · by_cases hf2 : J.fol = true
        · rw [if_pos hf2]; exact (hA hf2).2
        · rw [if_neg hf2]; unfold dn; rw [if_pos hf, List.drop_eq_nil_of_le (by rw [List.length_take]; omega)]
    have hdb : dn b r ≤ b := by unfold dn; split <;> omega
    have hsplit : ∀ k, (L.take b).drop (dn b r) ++ (L.drop b).take k = (L.take (b + k)).drop (dn b r) := fun k => by
      rw [List.take_add, List.drop_append_of_le_length (by rw [List.length_take]; omega)]
    have hokA : (J.fol = false ∨ (tk (J.hold ++ X)).ok = true) := by
      cases hf : J.fol with
      | false => exact .inl rfl
      | true => exact .inr (hA hf).1
    rcases c4 with ⟨d1, d2, d3⟩ | ⟨hc, d1, d2, d3⟩
    · have ht : tk (F.take (M - r) ++ pad) = ⟨(L.drop b).take c, [], (tk pad).fol, true⟩ := by
        rw [← d2, tk_flat _ _ fun s hs => hL s (List.mem_of_mem_drop (List.mem_of_mem_take hs)), hpf.1, hpf.2.1, hpf.2.2, List.append_nil]
      have hif : (if (J.fol = false ∨ (tk (J.hold ++ X)).ok = true) ∧ (tk (F.take (M - r) ++ pad)).ok = true then e else 12) = e := by rw [ht]; exact if_pos ⟨hokA, rfl⟩
      rw [hif, ht]
      subst d1
      simp only [if_true, Nat.add_zero] at e2 hes hpr2
      refine ⟨rfl, rfl, rfl, a + M, b + c, 0, ⟨⟨by omega, e2, by omega, by omega, by omega⟩, fun x => by omega, fun _ => rfl, fun _ _ => rfl, fun _ x => by omega⟩, ?_, ?_, fun x => ⟨.inr rfl, ?_⟩⟩
      · unfold dn at hdb ⊢; rw [if_pos rfl]; omega
      · unfold dn; rw [if_pos rfl]; omega
      · show _ ++ _ = _
        rw [hout x]
        have : dn (b + c) 0 = b + c := by unfold dn; rw [if_pos rfl]
        rw [this, hsplit]
    · have hz : r' ≠ 0 := by omega
      rw [if_neg hz] at e2 hes hpr2
      have hMM : M = 183 := by
        refine Classical.byContradiction fun x => ?_
        have := (hMr.2.2.2 (by omega)).1
        omega
      have hp0 : pad = [] := by rw [← hpad, hMM]; rfl
      subst hp0
      have hif : (if (J.fol = false ∨ (tk (J.hold ++ X)).ok = true) ∧ (tk (F.take (M - r) ++ [])).ok = true then e else 12) = e := by rw [List.append_nil, d3]; exact if_pos ⟨hokA, rfl⟩
      rw [hif, List.append_nil, d3]
      rw [List.length_drop] at hc
      have hg : (L.drop b)[c]'(by rw [List.length_drop]; exact hc) = L[b + c] := by rw [List.getElem_drop]
      rw [hg] at d2
      refine ⟨rfl, rfl, rfl, a + M, b + (c + 1), r', ⟨⟨by omega, e2, by omega, by omega, by omega⟩, fun _ => ⟨by omega, by omega, ?_⟩, fun x => (by cases x), fun _ x => absurd x hz, fun _ _ hb => ?_⟩, ?_, ?_, fun x => ⟨.inl rfl, ?_⟩⟩
      · have : b + (c + 1) - 1 = b + c := by omega
        simp only [this]; exact d2
      · have : b + (c + 1) - 1 = b + c := by omega
        simp only [this]
        rw [hg]
      · unfold dn at hdb ⊢; rw [if_neg hz]; omega
      · unfold dn; rw [if_neg hz]; omega
      · show _ ++ _ = _
        rw [hout x]
        have : dn (b + (c + 1)) r' = b + c := by unfold dn; rw [if_neg hz]; omega
        rw [this, hsplit]
end Go.Proofs.YtifbomppgflkfaaDoor.Jn
