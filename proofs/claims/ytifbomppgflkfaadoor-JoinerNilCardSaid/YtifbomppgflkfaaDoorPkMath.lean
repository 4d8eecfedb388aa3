/-
  Packets of a transport stream, as mathematics: what is wrong with a packet, which bytes it is, which packet bytes are, where packets begin in bytes, and which pieces bytes are. No function of the program.
-/
import Derived.Test.YtifbomppgflkfaaDoorBase
namespace Go.Proofs.YtifbomppgflkfaaDoor.Pk
open Gf
set_option maxRecDepth 100000
structure Pkt where
  pid : Int
  start : Bool
  count : Int
  bad : Bool
  body : ByteArray
def pk0 : Pkt := ⟨0, false, 0, false, ⟨#[]⟩⟩
theorem pkt_ext {a b : Pkt} (h1 : a.pid = b.pid) (h2 : a.start = b.start) (h3 : a.count = b.count) (h4 : a.bad = b.bad) (h5 : ls a.body = ls b.body) : a = b := by
  cases a; cases b
  simp only at h1 h2 h3 h4 h5
  subst h1 h2 h3 h4
  rename_i x y
  rw [show x = y by rw [← st_ls x, h5, st_ls]]
/-- The numbers are what they may be. -/
def okP (p : Pkt) : Prop := (0 ≤ p.pid ∧ p.pid ≤ 8191) ∧ (0 ≤ p.count ∧ p.count ≤ 15)
instance (p : Pkt) : Decidable (okP p) := by unfold okP; infer_instance
/-- What is wrong with a packet. -/
def ckP (p : Pkt) : Int := if okP p then (if 184 < p.body.size then 17 else 0) else 15
theorem ckP_no {p : Pkt} (h : ¬ okP p) : ckP p = 15 := by unfold ckP; rw [if_neg h]
theorem ckP_full {p : Pkt} (h : okP p) (k : 184 < p.body.size) : ckP p = 17 := by unfold ckP; rw [if_pos h, if_pos k]
theorem ckP_ok {p : Pkt} (h : okP p) (k : ¬ 184 < p.body.size) : ckP p = 0 := by unfold ckP; rw [if_pos h, if_neg k]
theorem ckP_good {p : Pkt} (h : ckP p = 0) : okP p ∧ p.body.size ≤ 184 := by
  by_cases k : okP p
  · by_cases g : 184 < p.body.size
    · rw [ckP_full k g] at h; omega
    · exact ⟨k, by omega⟩
  · rw [ckP_no k] at h; omega
def bn (b : Bool) : Nat := if b then 1 else 0
theorem bn_le (b : Bool) : bn b ≤ 1 := by cases b <;> decide
/-- The two bits that tell of an adaptation and a body of n bytes. -/
def how (n : Nat) : Nat := if n = 184 then 1 else if n = 0 then 2 else 3
theorem how_le (n : Nat) : 1 ≤ how n ∧ how n ≤ 3 := by
  unfold how
  by_cases h : n = 184
  · rw [if_pos h]; omega
  · rw [if_neg h]
    by_cases k : n = 0
    · rw [if_pos k]; omega
    · rw [if_neg k]; omega
/-- The bytes of the adaptation ahead of a body of n bytes: the byte 0, and bytes 255, ahead of them how many they are. -/
def fil (n : Nat) : List UInt8 := (List.range n).map fun i => if i = 0 then 0 else 255
def adp (n : Nat) : List UInt8 := if n = 184 then [] else UInt8.ofNat (183 - n) :: fil (183 - n)
theorem fil_length (n : Nat) : (fil n).length = n := by simp [fil]
theorem adp_length {n : Nat} (h : n ≤ 184) : (adp n).length = 184 - n := by
  unfold adp
  split
  · subst_vars; rfl
  · rw [List.length_cons, fil_length]; omega
/-- The four bytes ahead. -/
def hd (p : Pkt) : List UInt8 := [71, UInt8.ofNat (p.pid.toNat / 256 + 128 * bn p.bad + 64 * bn p.start), UInt8.ofNat (p.pid.toNat % 256), UInt8.ofNat (16 * how p.body.size + p.count.toNat)]
/-- A packet's bytes. -/
def bts (p : Pkt) : List UInt8 := hd p ++ (adp p.body.size ++ ls p.body)
theorem hd_length (p : Pkt) : (hd p).length = 4 := rfl
theorem bts_length {p : Pkt} (h : p.body.size ≤ 184) : (bts p).length = 188 := by
  unfold bts; rw [List.length_append, List.length_append, hd_length, adp_length h, ← ls_size]; omega
/-- Encode. -/
def ecP (p : Pkt) : List UInt8 × Int := if ckP p = 0 then (bts p, 0) else ([], ckP p)
theorem ecP_ok {p : Pkt} (h : ckP p = 0) : ecP p = (bts p, 0) := by unfold ecP; rw [if_pos h]
theorem ecP_no {p : Pkt} (h : ckP p ≠ 0) : ecP p = ([], ckP p) := by unfold ecP; rw [if_neg h]
theorem cf_left {a : List UInt8} (b : List UInt8) {i : Nat} (h : i < a.length) : cf (a ++ b) i = cf a i := by
  unfold cf; rw [List.getD_eq_getElem?_getD, List.getD_eq_getElem?_getD, List.getElem?_append_left h]
theorem cf_right {a : List UInt8} (b : List UInt8) {i : Nat} (h : a.length ≤ i) : cf (a ++ b) i = cf b (i - a.length) := by
  unfold cf; rw [List.getD_eq_getElem?_getD, List.getD_eq_getElem?_getD, List.getElem?_append_right h]
theorem cf_drop (l : List UInt8) (k i : Nat) : cf (l.drop k) i = cf l (k + i) := by
  unfold cf; rw [List.getD_eq_getElem?_getD, List.getD_eq_getElem?_getD, List.getElem?_drop]
theorem cf_take {l : List UInt8} {k i : Nat} (h : i < k) : cf (l.take k) i = cf l i := by
  unfold cf; rw [List.getD_eq_getElem?_getD, List.getD_eq_getElem?_getD, List.getElem?_take_of_lt h]
theorem toNat_of {n : Nat} (h : n < 256) : (UInt8.ofNat n).toNat = n := UInt8.toNat_ofNat_of_lt' h
theorem bts_0 (p : Pkt) : cf (bts p) 0 = 71 := rfl
theorem bts_1 {p : Pkt} (h : okP p) : (cf (bts p) 1).toNat = p.pid.toNat / 256 + 128 * bn p.bad + 64 * bn p.start := by
  have := bn_le p.bad; have := bn_le p.start; obtain ⟨⟨_, _⟩, _⟩ := h
  show (UInt8.ofNat _).toNat = _
  rw [toNat_of (by omega)]
theorem bts_2 (p : Pkt) : (cf (bts p) 2).toNat = p.pid.toNat % 256 := by
  show (UInt8.ofNat _).toNat = _
  rw [toNat_of (by omega)]
theorem bts_3 {p : Pkt} (h : okP p) : (cf (bts p) 3).toNat = 16 * how p.body.size + p.count.toNat := by
  have := how_le p.body.size; obtain ⟨_, _, _⟩ := h
  show (UInt8.ofNat _).toNat = _
  rw [toNat_of (by omega)]
theorem bts_4 {p : Pkt} (h : p.body.size < 184) : (cf (bts p) 4).toNat = 183 - p.body.size := by
  unfold bts adp
  rw [if_neg (by omega)]
  show (UInt8.ofNat _).toNat = _
  rw [toNat_of (by omega)]
/-- What bytes tell of an adaptation and a body. -/
def hw (l : List UInt8) : Nat := (cf l 3).toNat / 16 % 4
theorem hw_lt (l : List UInt8) : hw l < 4 := Nat.mod_lt _ (by decide)
/-- What is wrong with bytes. -/
def dcE (l : List UInt8) : Int :=
  if l.length < 188 then 10 else if 188 < l.length then 11 else if cf l 0 ≠ 71 then 20 else if hw l = 0 then 12 else
  if hw l = 2 ∧ (cf l 4).toNat ≠ 183 then 12 else if hw l = 3 ∧ 182 < (cf l 4).toNat then 12 else 0
/-- Where the body begins. -/
def frm (l : List UInt8) : Nat := if hw l = 1 then 4 else if hw l = 2 then 188 else 5 + (cf l 4).toNat
/-- The packet of bytes that are one. -/
def dcP (l : List UInt8) : Pkt := ⟨(((cf l 1).toNat % 32 * 256 + (cf l 2).toNat : Nat) : Int), decide ((cf l 1).toNat / 64 % 2 = 1), (((cf l 3).toNat % 16 : Nat) : Int), decide ((cf l 1).toNat / 128 = 1), st (l.drop (frm l))⟩
/-- Decode. -/
def dc (l : List UInt8) : Pkt × Int := if dcE l = 0 then (dcP l, 0) else (pk0, dcE l)
theorem dc_ok {l : List UInt8} (h : dcE l = 0) : dc l = (dcP l, 0) := by unfold dc; rw [if_pos h]
theorem dc_no {l : List UInt8} (h : dcE l ≠ 0) : dc l = (pk0, dcE l) := by unfold dc; rw [if_neg h]
theorem dcE_short {l : List UInt8} (h : l.length < 188) : dcE l = 10 := by unfold dcE; rw [if_pos h]
theorem dcE_long {l : List UInt8} (h : 188 < l.length) : dcE l = 11 := by unfold dcE; rw [if_neg (by omega), if_pos h]
theorem dcE_sync {l : List UInt8} (h : l.length = 188) (k : cf l 0 ≠ 71) : dcE l = 20 := by unfold dcE; rw [if_neg (by omega), if_neg (by omega), if_pos k]
theorem dcE_0 {l : List UInt8} (h : l.length = 188) (k : cf l 0 = 71) (g : hw l = 0) : dcE l = 12 := by unfold dcE; rw [if_neg (by omega), if_neg (by omega), if_neg (fun x => x k), if_pos g]
theorem dcE_1 {l : List UInt8} (h : l.length = 188) (k : cf l 0 = 71) (g : hw l = 1) : dcE l = 0 := by
  unfold dcE; rw [if_neg (by omega), if_neg (by omega), if_neg (fun x => x k), if_neg (by omega), if_neg (by omega), if_neg (by omega)]
theorem dcE_2 {l : List UInt8} (h : l.length = 188) (k : cf l 0 = 71) (g : hw l = 2) (n : (cf l 4).toNat = 183) : dcE l = 0 := by
  unfold dcE; rw [if_neg (by omega), if_neg (by omega), if_neg (fun x => x k), if_neg (by omega), if_neg (by omega), if_neg (by omega)]
theorem dcE_2no {l : List UInt8} (h : l.length = 188) (k : cf l 0 = 71) (g : hw l = 2) (n : (cf l 4).toNat ≠ 183) : dcE l = 12 := by
  unfold dcE; rw [if_neg (by omega), if_neg (by omega), if_neg (fun x => x k), if_neg (by omega), if_pos ⟨g, n⟩]
theorem dcE_3 {l : List UInt8} (h : l.length = 188) (k : cf l 0 = 71) (g : hw l = 3) (n : (cf l 4).toNat ≤ 182) : dcE l = 0 := by
  unfold dcE; rw [if_neg (by omega), if_neg (by omega), if_neg (fun x => x k), if_neg (by omega), if_neg (by omega), if_neg (by omega)]
theorem dcE_3no {l : List UInt8} (h : l.length = 188) (k : cf l 0 = 71) (g : hw l = 3) (n : 182 < (cf l 4).toNat) : dcE l = 12 := by
  unfold dcE; rw [if_neg (by omega), if_neg (by omega), if_neg (fun x => x k), if_neg (by omega), if_neg (by omega), if_pos ⟨g, n⟩]
/-- Bytes that are a packet. -/
theorem dcE_good {l : List UInt8} (h : dcE l = 0) : l.length = 188 ∧ cf l 0 = 71 ∧ (hw l = 1 ∨ (hw l = 2 ∧ (cf l 4).toNat = 183) ∨ (hw l = 3 ∧ (cf l 4).toNat ≤ 182)) := by
  by_cases h1 : l.length < 188
  · rw [dcE_short h1] at h; omega
  by_cases h2 : 188 < l.length
  · rw [dcE_long h2] at h; omega
  have h3 : l.length = 188 := by omega
  by_cases h4 : cf l 0 = 71
  · refine ⟨h3, h4, ?_⟩
    have := hw_lt l
    by_cases g0 : hw l = 0
    · rw [dcE_0 h3 h4 g0] at h; omega
    by_cases g1 : hw l = 1
    · exact .inl g1
    by_cases g2 : hw l = 2
    · by_cases n : (cf l 4).toNat = 183
      · exact .inr (.inl ⟨g2, n⟩)
      · rw [dcE_2no h3 h4 g2 n] at h; omega
    · have g3 : hw l = 3 := by omega
      by_cases n : (cf l 4).toNat ≤ 182
      · exact .inr (.inr ⟨g3, n⟩)
      · rw [dcE_3no h3 h4 g3 (by omega)] at h; omega
  · rw [dcE_sync h3 h4] at h; omega
theorem dcP_size (l : List UInt8) : (dcP l).body.size = l.length - frm l := by
  show (st (l.drop (frm l))).size = _
  rw [st_size, List.length_drop]
/-- What is decoded may be encoded. -/
theorem ck_dcP {l : List UInt8} (h : dcE l = 0) : ckP (dcP l) = 0 := by
  obtain ⟨hl, _, hh⟩ := dcE_good h
  have h1 := (cf l 1).toNat_lt
  have h2 := (cf l 2).toNat_lt
  refine ckP_ok ⟨⟨?_, ?_⟩, ?_, ?_⟩ ?_
  · show (0 : Int) ≤ (((cf l 1).toNat % 32 * 256 + (cf l 2).toNat : Nat) : Int); omega
  · show (((cf l 1).toNat % 32 * 256 + (cf l 2).toNat : Nat) : Int) ≤ 8191; omega
  · show (0 : Int) ≤ (((cf l 3).toNat % 16 : Nat) : Int); omega
  · show (((cf l 3).toNat % 16 : Nat) : Int) ≤ 15; omega
  · rw [dcP_size, hl]
    have : 4 ≤ frm l := by
      unfold frm
      by_cases g : hw l = 1
      · rw [if_pos g]; omega
      · rw [if_neg g]
        by_cases k : hw l = 2
        · rw [if_pos k]; omega
        · rw [if_neg k]; omega
    omega
/-- Decode of Encode is the packet. -/
theorem dc_bts {p : Pkt} (h : ckP p = 0) : dcE (bts p) = 0 ∧ dcP (bts p) = p := by
  obtain ⟨hk, hz⟩ := ckP_good h
  have hl := bts_length hz
  have h0 := bts_0 p
  have h1 := bts_1 hk
  have h2 := bts_2 p
  have h3 := bts_3 hk
  obtain ⟨⟨k1, k2⟩, k3, k4⟩ := hk
  have hb := bn_le p.bad
  have hs := bn_le p.start
  have hh := how_le p.body.size
  have e3 : hw (bts p) = how p.body.size := by unfold hw; rw [h3]; omega
  have ha := adp_length hz
  have hf : frm (bts p) = 188 - p.body.size ∧ dcE (bts p) = 0 := by
    by_cases g : p.body.size = 184
    · have e : hw (bts p) = 1 := by rw [e3]; unfold how; rw [if_pos g]
      exact ⟨by unfold frm; rw [if_pos e]; omega, dcE_1 hl h0 e⟩
    · have h4 := bts_4 (p := p) (by omega)
      by_cases g0 : p.body.size = 0
      · have e : hw (bts p) = 2 := by rw [e3]; unfold how; rw [if_neg g, if_pos g0]
        exact ⟨by unfold frm; rw [if_neg (by omega), if_pos e]; omega, dcE_2 hl h0 e (by omega)⟩
      · have e : hw (bts p) = 3 := by rw [e3]; unfold how; rw [if_neg g, if_neg g0]
        exact ⟨by unfold frm; rw [if_neg (by omega), if_neg (by omega)]; omega, dcE_3 hl h0 e (by omega)⟩
  refine ⟨hf.2, pkt_ext ?_ ?_ ?_ ?_ ?_⟩
  · show (((cf (bts p) 1).toNat % 32 * 256 + (cf (bts p) 2).toNat : Nat) : Int) = p.pid
    rw [h1, h2]; omega
  · show decide ((cf (bts p) 1).toNat / 64 % 2 = 1) = p.start
    rw [h1]
    cases e : p.start
    · exact decide_eq_false (by rw [e] at hs; show ¬ (_ + 64 * 0) / 64 % 2 = 1; omega)
    · exact decide_eq_true (by show (_ + 64 * 1) / 64 % 2 = 1; omega)
  · show (((cf (bts p) 3).toNat % 16 : Nat) : Int) = p.count
    rw [h3]; omega
  · show decide ((cf (bts p) 1).toNat / 128 = 1) = p.bad
    rw [h1]
    cases e : p.bad
    · exact decide_eq_false (by show ¬ (_ + 128 * 0 + _) / 128 = 1; omega)
    · exact decide_eq_true (by show (_ + 128 * 1 + _) / 128 = 1; omega)
  · show (bts p).drop (frm (bts p)) = ls p.body
    rw [hf.1]
    unfold bts
    rw [← List.append_assoc]
    have : (hd p ++ adp p.body.size).length = 188 - p.body.size := by rw [List.length_append, hd_length, ha]; omega
    rw [← this, List.drop_left]
/-- From a place on all bytes 188 further on, again and again, are 0x47. -/
def goodL (l : List UInt8) (at' : Nat) : Prop := ∀ i, at' + 188 * i < l.length → cf l (at' + 188 * i) = 71
/-- Is what is 188 bytes further on, up to a place, 0x47? -/
def upto (l : List UInt8) (at' n : Nat) : Prop := ∀ i, i < n → at' + 188 * i < l.length → cf l (at' + 188 * i) = 71
theorem upto_zero (l : List UInt8) (a : Nat) : upto l a 0 := fun i hi => by omega
theorem upto_next {l : List UInt8} {a n : Nat} (h : upto l a n) (k : cf l (a + 188 * n) = 71) : upto l a (n + 1) := fun i hi hb => by
  by_cases e : i = n
  · subst e; exact k
  · exact h i (by omega) hb
theorem upto_all {l : List UInt8} {a n : Nat} (h : upto l a n) (k : l.length ≤ a + 188 * n) : goodL l a := fun i hi => h i (by omega) hi
theorem good_upto {l : List UInt8} {a : Nat} (h : goodL l a) (n : Nat) : upto l a n := fun i _ hb => h i hb
/-- No packets begin below a place. -/
def noneB (l : List UInt8) (n : Nat) : Prop := ∀ a, a < n → ¬ goodL l a
/-- Where packets begin. -/
def isFind (l : List UInt8) (r : Option Nat) : Prop :=
  match r with
  | some a => a < 188 ∧ a < l.length ∧ goodL l a ∧ noneB l a
  | none => ∀ a, a < 188 → a < l.length → ¬ goodL l a
theorem isFind_one {l : List UInt8} {r s : Option Nat} (h : isFind l r) (k : isFind l s) : r = s := by
  cases r with
  | none => cases s with
    | none => rfl
    | some b => exact absurd k.2.2.1 (h b k.1 k.2.1)
  | some a => cases s with
    | none => exact absurd h.2.2.1 (k a h.1 h.2.1)
    | some b =>
      rcases Nat.lt_trichotomy a b with x | x | x
      · exact absurd h.2.2.1 (k.2.2.2 a x)
      · rw [x]
      · exact absurd k.2.2.1 (h.2.2.2 b x)
theorem find_some {l : List UInt8} {a : Nat} (h1 : a < 188) (h2 : a < l.length) (h3 : goodL l a) (h4 : noneB l a) : isFind l (some a) := ⟨h1, h2, h3, h4⟩
theorem find_none {l : List UInt8} {n : Nat} (h : noneB l n) (hn : 188 ≤ n ∨ l.length ≤ n) : isFind l none := fun a h1 h2 => h a (by omega)
theorem noneB_next {l : List UInt8} {n : Nat} (h : noneB l n) (k : ¬ goodL l n) : noneB l (n + 1) := fun a ha => by
  by_cases e : a = n
  · subst e; exact k
  · exact h a (by omega)
noncomputable def fnd (l : List UInt8) : Option Nat := Classical.epsilon (isFind l)
theorem fnd_is (l : List UInt8) : isFind l (fnd l) := by
  refine Classical.epsilon_spec (p := isFind l) ?_
  by_cases h : ∃ a, a < 188 ∧ a < l.length ∧ goodL l a
  · have : ∀ n, (∃ a, a ≤ n ∧ a < 188 ∧ a < l.length ∧ goodL l a) → ∃ r, isFind l r := by
      intro n
      induction n using Nat.strongRecOn with
      | _ n ih =>
        rintro ⟨a, ha, h1, h2, h3⟩
        by_cases hb : noneB l a
        · exact ⟨some a, h1, h2, h3, hb⟩
        · obtain ⟨b, hb'⟩ := Classical.not_forall.1 hb
          obtain ⟨hlt, hg⟩ := Classical.not_imp.1 hb'
          have hg := Classical.not_not.1 hg
          exact ih b (by omega) ⟨b, Nat.le_refl _, by omega, by omega, hg⟩
    obtain ⟨a, h1, h2, h3⟩ := h
    exact this a ⟨a, Nat.le_refl _, h1, h2, h3⟩
  · exact ⟨none, fun a h1 h2 h3 => h ⟨a, h1, h2, h3⟩⟩
theorem fnd_eq {l : List UInt8} {r : Option Nat} (h : isFind l r) : fnd l = r := isFind_one (fnd_is l) h
/-- What Find answers, and what the document's does. -/
noncomputable def fdA (l : List UInt8) : Int := match fnd l with | some a => (a : Int) | none => 0
noncomputable def fdE (l : List UInt8) : Int := match fnd l with | some _ => 0 | none => 18
noncomputable def fdR (l : List UInt8) : Int := match fnd l with | some a => (a : Int) | none => -1
/-- The pieces of 188 bytes, and what is left. -/
def pcs (l : List UInt8) : List (List UInt8) := (List.range (l.length / 188)).map fun i => (l.drop (188 * i)).take 188
def rst (l : List UInt8) : List UInt8 := l.drop (188 * (l.length / 188))
theorem pcs_length (l : List UInt8) : (pcs l).length = l.length / 188 := by simp [pcs]
theorem pcs_get (l : List UInt8) {i : Nat} (h : i < l.length / 188) : (pcs l).getD i [] = (l.drop (188 * i)).take 188 := by
  unfold pcs
  rw [List.getD_eq_getElem?_getD, List.getElem?_map, List.getElem?_range h]; rfl
theorem piece_length (l : List UInt8) {i : Nat} (h : i < l.length / 188) : ((l.drop (188 * i)).take 188).length = 188 := by
  rw [List.length_take, List.length_drop]; omega
theorem piece_0 (l : List UInt8) {i : Nat} : cf ((l.drop (188 * i)).take 188) 0 = cf l (188 * i) := by
  rw [cf_take (by decide), cf_drop]; rfl
theorem rst_0 (l : List UInt8) : cf (rst l) 0 = cf l (188 * (l.length / 188)) := by unfold rst; rw [cf_drop]; rfl
/-- Packets one behind the other. -/
theorem good_packets : ∀ (L : List (List UInt8)), (∀ x ∈ L, x.length = 188 ∧ cf x 0 = 71) → L.flatten.length = 188 * L.length ∧ goodL L.flatten 0
  | [], _ => ⟨rfl, fun i hi => by simp at hi⟩
  | x :: L, h => by
    obtain ⟨h1, h2⟩ := good_packets L fun y hy => h y (List.mem_cons_of_mem _ hy)
    obtain ⟨g1, g2⟩ := h x (List.mem_cons_self ..)
    have hl : (x :: L).flatten.length = 188 * (x :: L).length := by
      rw [List.flatten_cons, List.length_append, h1, g1, List.length_cons]; omega
    refine ⟨hl, fun i hi => ?_⟩
    rw [List.flatten_cons]
    cases i with
    | zero => rw [cf_left _ (by omega)]; exact g2
    | succ i =>
      rw [cf_right _ (by omega), g1, show 0 + 188 * (i + 1) - 188 = 0 + 188 * i by omega]
      exact h2 i (by rw [hl, List.length_cons] at hi; rw [h1]; omega)
/-- Behind other bytes. -/
theorem good_behind {a l : List UInt8} (h : goodL l 0) : goodL (a ++ l) a.length := fun i hi => by
  rw [cf_right _ (by omega), show a.length + 188 * i - a.length = 0 + 188 * i by omega]
  exact h i (by rw [List.length_append] at hi; omega)
theorem good_from {l : List UInt8} {a : Nat} (h : goodL l a) : goodL (l.drop a) 0 := fun i hi => by
  rw [cf_drop, show a + (0 + 188 * i) = a + 188 * i by omega]
  exact h i (by rw [List.length_drop] at hi; omega)
end Go.Proofs.YtifbomppgflkfaaDoor.Pk
