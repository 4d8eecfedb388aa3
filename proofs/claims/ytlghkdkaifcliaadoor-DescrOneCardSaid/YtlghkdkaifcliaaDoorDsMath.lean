/-
  Descriptors, as mathematics (for layer 18): loops, Slices, Places, Targets: which bytes they are, and how they are read. No function of the program.
-/
import Derived.Test.YtlghkdkaifcliaaDoorBase
namespace Go.Proofs.YtlghkdkaifcliaaDoor.Ds
open Gf
set_option maxRecDepth 100000
set_option linter.unusedVariables false
set_option linter.unusedSimpArgs false
def u8 (n : Nat) : UInt8 := UInt8.ofNat n
theorem u8_nat {n : Nat} (h : n < 256) : (u8 n).toNat = n := UInt8.toNat_ofNat_of_lt' h
theorem cf_drop (l : List UInt8) (n i : Nat) : cf (l.drop n) i = cf l (n + i) := by
  unfold cf; rw [List.getD_eq_getElem?_getD, List.getD_eq_getElem?_getD, List.getElem?_drop]
/-- A descriptor. -/
structure Dsc where
  tag : Int
  body : ByteArray
def okD (d : Dsc) : Prop := (0 ≤ d.tag ∧ d.tag ≤ 255) ∧ d.body.size ≤ 255
instance (d : Dsc) : Decidable (okD d) := by unfold okD; infer_instance
theorem dsc_ext {a b : Dsc} (h : a.tag = b.tag) (k : ls a.body = ls b.body) : a = b := by
  obtain ⟨at', ab⟩ := a
  obtain ⟨bt, bb⟩ := b
  simp only at h k
  have : ab = bb := by rw [← st_ls ab, ← st_ls bb, k]
  subst h this; rfl
/-- Its bytes; a loop's. -/
def dsB (d : Dsc) : List UInt8 := u8 d.tag.toNat :: u8 d.body.size :: ls d.body
def lpB : List Dsc → List UInt8
  | [] => []
  | d :: l => dsB d ++ lpB l
theorem dsB_length (d : Dsc) : (dsB d).length = d.body.size + 2 := by unfold dsB; rw [List.length_cons, List.length_cons, ← ls_size]
theorem lpB_append : ∀ (l m : List Dsc), lpB (l ++ m) = lpB l ++ lpB m
  | [], _ => rfl
  | d :: l, m => by
    show dsB d ++ lpB (l ++ m) = (dsB d ++ lpB l) ++ lpB m
    rw [lpB_append l m, List.append_assoc]
theorem lpB_take_succ (l : List Dsc) {k : Nat} (h : k < l.length) : lpB (l.take (k + 1)) = lpB (l.take k) ++ dsB l[k] := by
  rw [List.take_add_one, List.getElem?_eq_getElem h, lpB_append]
  show _ ++ (dsB l[k] ++ lpB []) = _
  show _ ++ (dsB l[k] ++ []) = _
  rw [List.append_nil]
/-- What is wrong with one; with the first one of a list that may not be. -/
def dsE (d : Dsc) : Int := if ¬ (0 ≤ d.tag ∧ d.tag ≤ 255) then 15 else if 255 < d.body.size then 11 else 0
def lpE : List Dsc → Int
  | [] => 0
  | d :: l => if dsE d = 0 then lpE l else dsE d
theorem dsE_ok {d : Dsc} : dsE d = 0 ↔ okD d := by
  unfold dsE okD
  split
  · constructor
    · intro h; cases h
    · intro h; exact absurd h.1 (by assumption)
  · split
    · constructor
      · intro h; cases h
      · intro h; omega
    · constructor
      · intro _; exact ⟨Classical.not_not.1 (by assumption), by omega⟩
      · intro _; rfl
theorem lpE_ok : ∀ {l : List Dsc}, lpE l = 0 ↔ ∀ d ∈ l, okD d
  | [] => by simp [lpE]
  | d :: l => by
    unfold lpE
    by_cases h : dsE d = 0
    · rw [if_pos h, lpE_ok (l := l)]
      constructor
      · intro k x hx
        rcases List.mem_cons.1 hx with rfl | hx
        · exact dsE_ok.1 h
        · exact k x hx
      · intro k x hx; exact k x (List.mem_cons_of_mem _ hx)
    · rw [if_neg h]
      constructor
      · intro k; exact absurd k h
      · intro k; exact absurd (dsE_ok.2 (k d (List.mem_cons_self ..))) h
/-- The first one that may not be. -/
theorem lpE_at {l : List Dsc} {k : Nat} (h : k < l.length) (ha : ∀ d ∈ l.take k, okD d) (he : dsE l[k] ≠ 0) : lpE l = dsE l[k] := by
  induction l generalizing k with
  | nil => simp at h
  | cons d l ih =>
    cases k with
    | zero =>
      have he' : ¬ dsE d = 0 := he
      unfold lpE; rw [if_neg he']; rfl
    | succ k =>
      have hd : okD d := ha d (by rw [List.take_succ_cons]; exact List.mem_cons_self ..)
      unfold lpE
      rw [if_pos (dsE_ok.2 hd)]
      exact ih (by simpa using h) (fun x hx => ha x (by rw [List.take_succ_cons]; exact List.mem_cons_of_mem _ hx)) he
/-- Loop's answer. -/
def loop (l : List Dsc) : List UInt8 × Int := if lpE l ≠ 0 then ([], lpE l) else if 4095 < (lpB l).length then ([], 11) else (lpB l, 0)
def okL (l : List Dsc) : Prop := (∀ d ∈ l, okD d) ∧ (lpB l).length ≤ 4095
theorem loop_ok {l : List Dsc} (h : okL l) : loop l = (lpB l, 0) := by
  have h1 := lpE_ok.2 h.1
  have h2 := h.2
  unfold loop
  rw [if_neg (fun x => x h1), if_neg (by omega)]
theorem loop_good {l : List Dsc} (h : (loop l).2 = 0) : okL l := by
  unfold loop at h
  by_cases h1 : lpE l ≠ 0
  · rw [if_pos h1] at h; exact absurd h h1
  · rw [if_neg h1] at h
    by_cases h2 : 4095 < (lpB l).length
    · rw [if_pos h2] at h; cases h
    · exact ⟨lpE_ok.1 (Classical.not_not.1 h1), by omega⟩
theorem loop_bad {l : List Dsc} (h : (loop l).2 ≠ 0) : (loop l).1 = [] := by
  unfold loop at h ⊢
  by_cases h1 : lpE l ≠ 0
  · rw [if_pos h1]
  · rw [if_neg h1] at h ⊢
    by_cases h2 : 4095 < (lpB l).length
    · rw [if_pos h2]
    · rw [if_neg h2] at h; exact absurd rfl h
/-- The descriptors of bytes; none, if they end in the middle of one. -/
def prF : Nat → List UInt8 → Option (List Dsc)
  | 0, _ => none
  | f + 1, s => if s = [] then some [] else if s.length < 2 then none else if s.length < 2 + (cf s 1).toNat then none else
    (prF f (s.drop (2 + (cf s 1).toNat))).map fun l => ⟨((cf s 0).toNat : Int), st ((s.drop 2).take (cf s 1).toNat)⟩ :: l
theorem prF_nil (f : Nat) : prF (f + 1) [] = some [] := rfl
theorem prF_one {f : Nat} {s : List UInt8} (h0 : s ≠ []) (h : s.length < 2) : prF (f + 1) s = none := by
  show (if s = [] then _ else _) = _; rw [if_neg h0, if_pos h]
theorem prF_short {f : Nat} {s : List UInt8} (h : ¬ s.length < 2) (k : s.length < 2 + (cf s 1).toNat) : prF (f + 1) s = none := by
  show (if s = [] then _ else _) = _; rw [if_neg (by rintro rfl; simp at h), if_neg h, if_pos k]
theorem prF_go {f : Nat} {s : List UInt8} (h : ¬ s.length < 2) (k : ¬ s.length < 2 + (cf s 1).toNat) :
    prF (f + 1) s = (prF f (s.drop (2 + (cf s 1).toNat))).map fun l => ⟨((cf s 0).toNat : Int), st ((s.drop 2).take (cf s 1).toNat)⟩ :: l := by
  show (if s = [] then _ else _) = _; rw [if_neg (by rintro rfl; simp at h), if_neg h, if_neg k]
theorem prF_more : ∀ (f g : Nat) (s : List UInt8), s.length < f → f ≤ g → prF f s = prF g s
  | 0, g, s, h, _ => by omega
  | f + 1, 0, s, _, h => by omega
  | f + 1, g + 1, s, h, k => by
    by_cases h0 : s = []
    · subst h0; rw [prF_nil, prF_nil]
    by_cases h1 : s.length < 2
    · rw [prF_one h0 h1, prF_one h0 h1]
    by_cases h2 : s.length < 2 + (cf s 1).toNat
    · rw [prF_short h1 h2, prF_short h1 h2]
    rw [prF_go h1 h2, prF_go h1 h2, prF_more f g _ (by rw [List.length_drop]; omega) (by omega)]
def prs (s : List UInt8) : Option (List Dsc) := prF (s.length + 1) s
theorem prs_nil : prs [] = some [] := rfl
theorem prs_one {s : List UInt8} (h0 : s ≠ []) (h : s.length < 2) : prs s = none := prF_one h0 h
theorem prs_short {s : List UInt8} (h : ¬ s.length < 2) (k : s.length < 2 + (cf s 1).toNat) : prs s = none := prF_short h k
theorem prs_go {s : List UInt8} (h : ¬ s.length < 2) (k : ¬ s.length < 2 + (cf s 1).toNat) :
    prs s = (prs (s.drop (2 + (cf s 1).toNat))).map fun l => ⟨((cf s 0).toNat : Int), st ((s.drop 2).take (cf s 1).toNat)⟩ :: l := by
  unfold prs
  rw [prF_go h k, prF_more _ s.length (s.drop (2 + (cf s 1).toNat)) (Nat.lt_succ_self _) (by rw [List.length_drop]; omega)]
theorem prs_lpB : ∀ {l : List Dsc} (x : List UInt8), (∀ d ∈ l, okD d) → prs (lpB l ++ x) = (prs x).map (l ++ ·)
  | [], x, _ => by
    show prs x = _
    cases prs x <;> rfl
  | d :: l, x, h => by
    obtain ⟨⟨d1, d2⟩, d3⟩ := h d (List.mem_cons_self ..)
    have e : lpB (d :: l) ++ x = dsB d ++ (lpB l ++ x) := by show (dsB d ++ lpB l) ++ x = _; rw [List.append_assoc]
    have c0 : cf (dsB d ++ (lpB l ++ x)) 0 = u8 d.tag.toNat := rfl
    have c1 : cf (dsB d ++ (lpB l ++ x)) 1 = u8 d.body.size := rfl
    have n0 : (u8 d.tag.toNat).toNat = d.tag.toNat := u8_nat (by omega)
    have n1 : (u8 d.body.size).toNat = d.body.size := u8_nat (by omega)
    have hl := dsB_length d
    have hlen : (dsB d ++ (lpB l ++ x)).length = d.body.size + 2 + (lpB l ++ x).length := by rw [List.length_append, hl]
    have hd2 : (dsB d ++ (lpB l ++ x)).drop 2 = ls d.body ++ (lpB l ++ x) := rfl
    rw [e, prs_go (by omega) (by rw [c1, n1]; omega), c0, c1, n0, n1, hd2, show 2 + d.body.size = (dsB d).length by omega, List.drop_left, prs_lpB x (fun y hy => h y (List.mem_cons_of_mem _ hy))]
    rw [ls_size d.body, List.take_left, st_ls]
    rw [show (⟨((d.tag.toNat : Nat) : Int), d.body⟩ : Dsc) = d from dsc_ext (by show ((d.tag.toNat : Nat) : Int) = d.tag; omega) rfl]
    cases prs x <;> rfl
theorem prs_whole {l : List Dsc} (h : ∀ d ∈ l, okD d) : prs (lpB l) = some l := by
  have := prs_lpB (l := l) [] h
  rw [List.append_nil, prs_nil] at this
  simpa using this
/-- What is read is made of the same bytes. -/
theorem prF_back : ∀ (f : Nat) (s : List UInt8) {l : List Dsc}, prF f s = some l → (∀ d ∈ l, okD d) ∧ lpB l = s
  | 0, _, _, h => by cases h
  | f + 1, s, l, h => by
    by_cases h0 : s = []
    · subst h0; rw [prF_nil] at h; cases h; exact ⟨(fun d hd => by cases hd), rfl⟩
    by_cases h1 : s.length < 2
    · rw [prF_one h0 h1] at h; cases h
    by_cases h2 : s.length < 2 + (cf s 1).toNat
    · rw [prF_short h1 h2] at h; cases h
    rw [prF_go h1 h2] at h
    obtain ⟨l', hl, rfl⟩ := Option.map_eq_some_iff.1 h
    obtain ⟨k1, k2⟩ := prF_back f _ hl
    have b0 := (cf s 0).toNat_lt
    have b1 := (cf s 1).toNat_lt
    have hbz : (st ((s.drop 2).take (cf s 1).toNat)).size = (cf s 1).toNat := by rw [st_size, List.length_take, List.length_drop]; omega
    refine ⟨fun d hd => ?_, ?_⟩
    · rcases List.mem_cons.1 hd with rfl | hd
      · exact ⟨⟨by show (0 : Int) ≤ ((cf s 0).toNat : Int); omega, by show ((cf s 0).toNat : Int) ≤ 255; omega⟩, by show (st _).size ≤ 255; rw [hbz]; omega⟩
      · exact k1 d hd
    · show dsB ⟨((cf s 0).toNat : Int), st ((s.drop 2).take (cf s 1).toNat)⟩ ++ lpB l' = s
      rw [k2]
      unfold dsB
      rw [hbz, ls_st]
      show u8 ((cf s 0).toNat : Int).toNat :: u8 (cf s 1).toNat :: (((s.drop 2).take (cf s 1).toNat) ++ s.drop (2 + (cf s 1).toNat)) = s
      rw [Int.toNat_natCast, ← List.drop_drop, List.take_append_drop]
      have u0 : ∀ c : UInt8, u8 c.toNat = c := fun c => UInt8.toNat_inj.1 (u8_nat c.toNat_lt)
      rw [u0, u0]
      obtain ⟨a, b, r, rfl⟩ : ∃ a b r, s = a :: b :: r := by
        rcases s with _ | ⟨a, _ | ⟨b, r⟩⟩
        · exact absurd rfl h0
        · simp at h1
        · exact ⟨a, b, r, rfl⟩
      rfl
theorem prs_back {s : List UInt8} {l : List Dsc} (h : prs s = some l) : (∀ d ∈ l, okD d) ∧ lpB l = s := prF_back _ s h
/-- Parse's answer. -/
def parse (s : List UInt8) : List Dsc × Int := if 4095 < s.length then ([], 11) else match prs s with
  | none => ([], 10)
  | some l => (l, 0)
theorem parse_long {s : List UInt8} (h : 4095 < s.length) : parse s = ([], 11) := by unfold parse; rw [if_pos h]
theorem parse_none {s : List UInt8} (h : ¬ 4095 < s.length) (k : prs s = none) : parse s = ([], 10) := by unfold parse; rw [if_neg h, k]
theorem parse_some {s : List UInt8} {l : List Dsc} (h : ¬ 4095 < s.length) (k : prs s = some l) : parse s = (l, 0) := by unfold parse; rw [if_neg h, k]
theorem parse_loop {l : List Dsc} (h : okL l) : parse (lpB l) = (l, 0) := parse_some (by have := h.2; omega) (prs_whole h.1)
theorem parse_good {s : List UInt8} (h : (parse s).2 = 0) : okL (parse s).1 ∧ lpB (parse s).1 = s := by
  by_cases h1 : 4095 < s.length
  · rw [parse_long h1] at h; cases h
  · cases h2 : prs s with
    | none => rw [parse_none h1 h2] at h; cases h
    | some l =>
      rw [parse_some h1 h2]
      obtain ⟨k1, k2⟩ := prs_back h2
      exact ⟨⟨k1, by rw [k2]; omega⟩, k2⟩
/-- A Slice. -/
structure Slc where
  sl : Bool
  fec : Bool
  rows : Int
  burst : Int
  rate : Int
  id : Int
  more : ByteArray
def okR (n : Int) : Prop := n = 256 ∨ n = 512 ∨ n = 768 ∨ n = 1024
instance (n : Int) : Decidable (okR n) := by unfold okR; infer_instance
def numSl (x : Slc) : Prop := okR x.rows ∧ (0 ≤ x.burst ∧ x.burst ≤ 255) ∧ (0 ≤ x.rate ∧ x.rate ≤ 15) ∧ (0 ≤ x.id ∧ x.id ≤ 15)
instance (x : Slc) : Decidable (numSl x) := by unfold numSl; infer_instance
def okSl (x : Slc) : Prop := numSl x ∧ x.more.size ≤ 252
instance (x : Slc) : Decidable (okSl x) := by unfold okSl; infer_instance
def bn (b : Bool) : Nat := if b then 1 else 0
/-- The first byte. -/
def slF (x : Slc) : Nat := 128 * bn x.sl + 32 * bn x.fec + 23 + x.rows.toNat / 256
def slB (x : Slc) : List UInt8 := u8 (slF x) :: u8 x.burst.toNat :: u8 (16 * x.rate.toNat + x.id.toNat) :: ls x.more
def slD (x : Slc) : Dsc := ⟨119, st (slB x)⟩
def slE (x : Slc) : Int := if ¬ numSl x then 15 else if 252 < x.more.size then 11 else 0
theorem slE_ok {x : Slc} : slE x = 0 ↔ okSl x := by
  unfold slE okSl
  split
  · constructor
    · intro h; cases h
    · intro h; exact absurd h.1 (by assumption)
  · split
    · constructor
      · intro h; cases h
      · intro h; omega
    · constructor
      · intro _; exact ⟨Classical.not_not.1 (by assumption), by omega⟩
      · intro _; rfl
theorem slc_ext {a b : Slc} (h1 : a.sl = b.sl) (h2 : a.fec = b.fec) (h3 : a.rows = b.rows) (h4 : a.burst = b.burst) (h5 : a.rate = b.rate) (h6 : a.id = b.id) (h7 : ls a.more = ls b.more) : a = b := by
  obtain ⟨a1, a2, a3, a4, a5, a6, a7⟩ := a
  obtain ⟨b1, b2, b3, b4, b5, b6, b7⟩ := b
  simp only at h1 h2 h3 h4 h5 h6 h7
  have : a7 = b7 := by rw [← st_ls a7, ← st_ls b7, h7]
  subst h1 h2 h3 h4 h5 h6 this; rfl
theorem slF_lt {x : Slc} (h : numSl x) : slF x < 256 := by
  obtain ⟨h1, _⟩ := h
  unfold slF bn
  rcases h1 with e | e | e | e <;> rw [e] <;> split <;> split <;> decide
/-- The Slice of a body of three bytes and more. -/
def rdSl (l : List UInt8) : Slc := ⟨decide ((cf l 0).toNat / 128 = 1), decide ((cf l 0).toNat / 32 % 2 = 1), ((256 * ((cf l 0).toNat % 8 + 1) : Nat) : Int), ((cf l 1).toNat : Int), (((cf l 2).toNat / 16 : Nat) : Int), (((cf l 2).toNat % 16 : Nat) : Int), st (l.drop 3)⟩
def zSl : Slc := ⟨false, false, 0, 0, 0, 0, ⟨#[]⟩⟩
def fmSl (l : List UInt8) : Prop := l.length ≤ 255 ∧ (cf l 0).toNat / 64 % 2 = 0 ∧ (cf l 0).toNat / 8 % 4 = 3 ∧ (cf l 0).toNat % 8 ≤ 3
instance (l : List UInt8) : Decidable (fmSl l) := by unfold fmSl; infer_instance
def rsl (d : Dsc) : Slc × Int := if d.tag ≠ 119 then (zSl, 14) else if d.body.size < 3 then (zSl, 10) else if ¬ fmSl (ls d.body) then (zSl, 12) else (rdSl (ls d.body), 0)
theorem rsl_slD {x : Slc} (h : okSl x) : rsl (slD x) = (x, 0) := by
  obtain ⟨hn, hm⟩ := h
  have hlt := slF_lt hn
  obtain ⟨h1, h2, h3, h4⟩ := hn
  have hb : ls (slD x).body = slB x := ls_st _
  have hz : (slD x).body.size = x.more.size + 3 := by rw [ls_size, hb]; unfold slB; rw [List.length_cons, List.length_cons, List.length_cons, ← ls_size]
  have c0 : cf (slB x) 0 = u8 (slF x) := rfl
  have c1 : cf (slB x) 1 = u8 x.burst.toNat := rfl
  have c2 : cf (slB x) 2 = u8 (16 * x.rate.toNat + x.id.toNat) := rfl
  have e0 : (cf (slB x) 0).toNat = slF x := by rw [c0, u8_nat hlt]
  have e1 : (cf (slB x) 1).toNat = x.burst.toNat := by rw [c1, u8_nat (by omega)]
  have e2 : (cf (slB x) 2).toNat = 16 * x.rate.toNat + x.id.toNat := by rw [c2, u8_nat (by omega)]
  have hf : slF x / 64 % 2 = 0 ∧ slF x / 8 % 4 = 3 ∧ slF x % 8 ≤ 3 ∧ ((slF x / 128 = 1) ↔ x.sl = true) ∧ ((slF x / 32 % 2 = 1) ↔ x.fec = true) ∧ ((256 * (slF x % 8 + 1) : Nat) : Int) = x.rows := by
    unfold slF bn
    rcases h1 with e | e | e | e <;> rw [e] <;> cases x.sl <;> cases x.fec <;> decide
  obtain ⟨f1, f2, f3, f4, f5, f6⟩ := hf
  have hfm : fmSl (slB x) := ⟨by rw [← hb, ← ls_size, hz]; omega, by rw [e0]; exact f1, by rw [e0]; exact f2, by rw [e0]; exact f3⟩
  unfold rsl
  rw [if_neg (fun k => k rfl), if_neg (by omega), hb, if_neg (fun k => k hfm)]
  have hr : rdSl (slB x) = x := by
    refine slc_ext ?_ ?_ ?_ ?_ ?_ ?_ ?_
    · show decide ((cf (slB x) 0).toNat / 128 = 1) = x.sl
      rw [e0]
      cases hs : x.sl with
      | false => exact decide_eq_false (fun k => by have := f4.1 k; rw [hs] at this; cases this)
      | true => exact decide_eq_true (f4.2 hs)
    · show decide ((cf (slB x) 0).toNat / 32 % 2 = 1) = x.fec
      rw [e0]
      cases hs : x.fec with
      | false => exact decide_eq_false (fun k => by have := f5.1 k; rw [hs] at this; cases this)
      | true => exact decide_eq_true (f5.2 hs)
    · show ((256 * ((cf (slB x) 0).toNat % 8 + 1) : Nat) : Int) = x.rows
      rw [e0]; exact f6
    · show ((cf (slB x) 1).toNat : Int) = x.burst
      rw [e1]; omega
    · show (((cf (slB x) 2).toNat / 16 : Nat) : Int) = x.rate
      rw [e2]; omega
    · show (((cf (slB x) 2).toNat % 16 : Nat) : Int) = x.id
      rw [e2]; omega
    · show ls (st ((slB x).drop 3)) = ls x.more
      rw [ls_st]; rfl
  rw [hr]
theorem rsl_good {d : Dsc} (h : (rsl d).2 = 0) : okSl (rsl d).1 ∧ slD (rsl d).1 = d := by
  unfold rsl at h ⊢
  by_cases h1 : d.tag ≠ 119
  · rw [if_pos h1] at h; cases h
  rw [if_neg h1] at h ⊢
  by_cases h2 : d.body.size < 3
  · rw [if_pos h2] at h; cases h
  rw [if_neg h2] at h ⊢
  by_cases h3 : ¬ fmSl (ls d.body)
  · rw [if_pos h3] at h; cases h
  rw [if_neg h3]
  obtain ⟨k1, k2, k3, k4⟩ := Classical.not_not.1 h3
  have hz := ls_size d.body
  obtain ⟨a, b, c, r, hl⟩ : ∃ a b c r, ls d.body = a :: b :: c :: r := by
    rcases hx : ls d.body with _ | ⟨a, _ | ⟨b, _ | ⟨c, r⟩⟩⟩
    · have := congrArg List.length hx; simp only [List.length_cons, List.length_nil] at this; omega
    · have := congrArg List.length hx; simp only [List.length_cons, List.length_nil] at this; omega
    · have := congrArg List.length hx; simp only [List.length_cons, List.length_nil] at this; omega
    · exact ⟨a, b, c, r, rfl⟩
  rw [hl] at k1 k2 k3 k4 hz ⊢
  have c0 : cf (a :: b :: c :: r) 0 = a := rfl
  rw [c0] at k2 k3 k4
  have ba := a.toNat_lt
  have bb := b.toNat_lt
  have bc := c.toNat_lt
  simp only [List.length_cons] at k1 hz
  have e : rdSl (a :: b :: c :: r) = ⟨decide (a.toNat / 128 = 1), decide (a.toNat / 32 % 2 = 1), ((256 * (a.toNat % 8 + 1) : Nat) : Int), (b.toNat : Int), ((c.toNat / 16 : Nat) : Int), ((c.toNat % 16 : Nat) : Int), st r⟩ := rfl
  rw [e]
  refine ⟨⟨⟨?_, ⟨by show (0 : Int) ≤ (b.toNat : Int); omega, by show (b.toNat : Int) ≤ 255; omega⟩, ⟨by show (0 : Int) ≤ ((c.toNat / 16 : Nat) : Int); omega, by show ((c.toNat / 16 : Nat) : Int) ≤ 15; omega⟩, by show (0 : Int) ≤ ((c.toNat % 16 : Nat) : Int); omega, by show ((c.toNat % 16 : Nat) : Int) ≤ 15; omega⟩, ?_⟩, ?_⟩
  · show okR ((256 * (a.toNat % 8 + 1) : Nat) : Int)
    unfold okR
    omega
  · show (st r).size ≤ 252
    rw [st_size]; omega
  · refine dsc_ext (by show (119 : Int) = d.tag; omega) ?_
    show ls (st (slB _)) = ls d.body
    rw [ls_st, hl]
    unfold slB slF
    simp only [Int.toNat_natCast, ls_st]
    have u0 : ∀ {n : Nat} (q : UInt8), n = q.toNat → u8 n = q := fun q k => by rw [k]; exact UInt8.toNat_inj.1 (u8_nat q.toNat_lt)
    have g1 : bn (decide (a.toNat / 128 = 1)) = a.toNat / 128 := by
      unfold bn
      by_cases k : a.toNat / 128 = 1
      · rw [decide_eq_true k, if_pos rfl, k]
      · rw [decide_eq_false k, if_neg (by decide)]; omega
    have g2 : bn (decide (a.toNat / 32 % 2 = 1)) = a.toNat / 32 % 2 := by
      unfold bn
      by_cases k : a.toNat / 32 % 2 = 1
      · rw [decide_eq_true k, if_pos rfl, k]
      · rw [decide_eq_false k, if_neg (by decide)]; omega
    rw [g1, g2, u0 a (by omega), u0 b rfl, u0 c (by omega)]
theorem slD_inj {x y : Slc} (hx : okSl x) (hy : okSl y) (h : slD x = slD y) : x = y := by
  have e := rsl_slD hx
  rw [h, rsl_slD hy] at e
  exact (Prod.mk.inj e).1.symm
/-- A Place. -/
structure Plc where
  a : Int
  b : Int
  c : Int
  d : Int
  t : Int
def w16 (n : Int) : Prop := 0 ≤ n ∧ n ≤ 65535
instance (n : Int) : Decidable (w16 n) := by unfold w16; infer_instance
def okPl (x : Plc) : Prop := w16 x.a ∧ w16 x.b ∧ w16 x.c ∧ w16 x.d ∧ (0 ≤ x.t ∧ x.t ≤ 255)
instance (x : Plc) : Decidable (okPl x) := by unfold okPl; infer_instance
def b2 (n : Nat) : List UInt8 := [u8 (n / 256), u8 (n % 256)]
def plB (x : Plc) : List UInt8 := b2 x.a.toNat ++ (b2 x.b.toNat ++ (b2 x.c.toNat ++ (b2 x.d.toNat ++ [u8 x.t.toNat])))
def plD (x : Plc) : Dsc := ⟨19, st (plB x)⟩
def wd2 (l : List UInt8) (i : Nat) : Int := ((256 * (cf l i).toNat + (cf l (i + 1)).toNat : Nat) : Int)
def rdPl (l : List UInt8) : Plc := ⟨wd2 l 0, wd2 l 2, wd2 l 4, wd2 l 6, ((cf l 8).toNat : Int)⟩
def zPl : Plc := ⟨0, 0, 0, 0, 0⟩
def rpl (d : Dsc) : Plc × Int := if d.tag ≠ 19 then (zPl, 14) else if d.body.size < 9 then (zPl, 10) else if 9 < d.body.size then (zPl, 11) else (rdPl (ls d.body), 0)
theorem plB_length (x : Plc) : (plB x).length = 9 := rfl
theorem w16_nat {n : Int} (h : w16 n) : ((256 * (u8 (n.toNat / 256)).toNat + (u8 (n.toNat % 256)).toNat : Nat) : Int) = n := by
  obtain ⟨h1, h2⟩ := h
  rw [u8_nat (by omega), u8_nat (by omega)]; omega
theorem rpl_plD {x : Plc} (h : okPl x) : rpl (plD x) = (x, 0) := by
  obtain ⟨h1, h2, h3, h4, h5, h6⟩ := h
  have hb : ls (plD x).body = plB x := ls_st _
  have hz : (plD x).body.size = 9 := by rw [ls_size, hb]; rfl
  unfold rpl
  rw [if_neg (fun k => k rfl), if_neg (by omega), if_neg (by omega), hb]
  have e1 : wd2 (plB x) 0 = x.a := w16_nat h1
  have e2 : wd2 (plB x) 2 = x.b := w16_nat h2
  have e3 : wd2 (plB x) 4 = x.c := w16_nat h3
  have e4 : wd2 (plB x) 6 = x.d := w16_nat h4
  have e5 : ((cf (plB x) 8).toNat : Int) = x.t := by
    show ((u8 x.t.toNat).toNat : Int) = x.t
    rw [u8_nat (by omega)]; omega
  unfold rdPl
  rw [e1, e2, e3, e4, e5]
theorem nine_of {α : Type} : ∀ {l : List α}, l.length = 9 → ∃ a b c d e f g h i, l = [a, b, c, d, e, f, g, h, i]
  | [a, b, c, d, e, f, g, h, i], _ => ⟨a, b, c, d, e, f, g, h, i, rfl⟩
theorem rpl_good {d : Dsc} (h : (rpl d).2 = 0) : okPl (rpl d).1 ∧ plD (rpl d).1 = d := by
  unfold rpl at h ⊢
  by_cases h1 : d.tag ≠ 19
  · rw [if_pos h1] at h; cases h
  rw [if_neg h1] at h ⊢
  by_cases h2 : d.body.size < 9
  · rw [if_pos h2] at h; cases h
  rw [if_neg h2] at h ⊢
  by_cases h3 : 9 < d.body.size
  · rw [if_pos h3] at h; cases h
  rw [if_neg h3]
  obtain ⟨a, b, c, e, f, g, i, j, k, hl⟩ := nine_of (l := ls d.body) (by rw [← ls_size]; omega)
  rw [hl]
  have ba := a.toNat_lt; have bb := b.toNat_lt; have bc := c.toNat_lt; have be := e.toNat_lt; have bf := f.toNat_lt; have bg := g.toNat_lt; have bi := i.toNat_lt; have bj := j.toNat_lt; have bk := k.toNat_lt
  have e0 : rdPl [a, b, c, e, f, g, i, j, k] = ⟨((256 * a.toNat + b.toNat : Nat) : Int), ((256 * c.toNat + e.toNat : Nat) : Int), ((256 * f.toNat + g.toNat : Nat) : Int), ((256 * i.toNat + j.toNat : Nat) : Int), (k.toNat : Int)⟩ := rfl
  rw [e0]
  refine ⟨⟨?_, ?_, ?_, ?_, ?_, ?_⟩, ?_⟩
  · show w16 ((256 * a.toNat + b.toNat : Nat) : Int); unfold w16; omega
  · show w16 ((256 * c.toNat + e.toNat : Nat) : Int); unfold w16; omega
  · show w16 ((256 * f.toNat + g.toNat : Nat) : Int); unfold w16; omega
  · show w16 ((256 * i.toNat + j.toNat : Nat) : Int); unfold w16; omega
  · show (0 : Int) ≤ (k.toNat : Int); omega
  · show (k.toNat : Int) ≤ 255; omega
  · refine dsc_ext (by show (19 : Int) = d.tag; omega) ?_
    show ls (st (plB _)) = ls d.body
    rw [ls_st, hl]
    unfold plB b2
    simp only [Int.toNat_natCast]
    have u0 : ∀ {n : Nat} (q : UInt8), n = q.toNat → u8 n = q := fun q k => by rw [k]; exact UInt8.toNat_inj.1 (u8_nat q.toNat_lt)
    rw [u0 a (by omega), u0 b (by omega), u0 c (by omega), u0 e (by omega), u0 f (by omega), u0 g (by omega), u0 i (by omega), u0 j (by omega), u0 k rfl]
    rfl
theorem plD_inj {x y : Plc} (hx : okPl x) (hy : okPl y) (h : plD x = plD y) : x = y := by
  have e := rpl_plD hx
  rw [h, rpl_plD hy] at e
  exact (Prod.mk.inj e).1.symm
end Go.Proofs.YtlghkdkaifcliaaDoor.Ds
