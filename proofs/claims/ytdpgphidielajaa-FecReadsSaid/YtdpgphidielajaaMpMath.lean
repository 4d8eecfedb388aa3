/-
  Datagrams as sections (parts), as mathematics: what is wrong with a part, which bytes it is, which part bytes are, and what other times make of them. No program.
-/
import Derived.Test.YtdpgphidielajaaScMath
import Derived.Test.YtdpgphidielajaaTmMath
import Derived.Test.YtdpgphidielajaaDgMath
namespace Go.Proofs.Ytdpgphidielajaa.Mpe
open Gf Bit Crc Sct Tm
set_option maxRecDepth 100000
structure Prt where
  mac : Int
  tm : Tms
  txt : ByteArray
def zp : Prt := ⟨0, zt, ⟨#[]⟩⟩
theorem prt_ext {a b : Prt} (h1 : a.mac = b.mac) (h2 : a.tm = b.tm) (h3 : ls a.txt = ls b.txt) : a = b := by
  cases a; cases b
  simp only at h1 h2 h3
  subst h1 h2
  rename_i x y
  rw [show x = y by rw [← st_ls x, h3, st_ls]]
/-- Mac and Times are what they may be. -/
def okM (p : Prt) : Prop := (0 ≤ p.mac ∧ p.mac ≤ 65535) ∧ okT p.tm
instance (p : Prt) : Decidable (okM p) := by unfold okM; infer_instance
/-- What is wrong with a part. -/
def ckP (p : Prt) : Int := if okM p then Dg.check (ls p.txt) else 15
theorem ckP_no {p : Prt} (h : ¬ okM p) : ckP p = 15 := by unfold ckP; rw [if_neg h]
theorem ckP_ok {p : Prt} (h : okM p) : ckP p = Dg.check (ls p.txt) := by unfold ckP; rw [if_pos h]
theorem ckP_good {p : Prt} (h : ckP p = 0) : okM p ∧ Dg.check (ls p.txt) = 0 := by
  by_cases k : okM p
  · rw [ckP_ok k] at h; exact ⟨k, h⟩
  · rw [ckP_no k] at h; omega
theorem check_len {l : List UInt8} (h : Dg.check l = 0) : 20 ≤ l.length ∧ l.length ≤ 4080 := by
  obtain ⟨h1, h2⟩ := Dg.check_ok h
  have h3 := Dg.peek_ok h1
  omega
/-- The body of a part's section. -/
def bod (t : Tms) (l : List UInt8) : List UInt8 := by4 (nbr t) ++ l
theorem bod_length (t : Tms) (l : List UInt8) : (bod t l).length = l.length + 4 := by unfold bod; rw [List.length_append, by4_length]; omega
theorem bod_drop (t : Tms) (l : List UInt8) : (bod t l).drop 4 = l := List.drop_left' (by4_length _)
theorem bod_take (t : Tms) (l : List UInt8) : (bod t l).take 4 = by4 (nbr t) := List.take_left' (by4_length _)
theorem n4_take (l : List UInt8) (h : 4 ≤ l.length) : n4 (l.take 4) = n4 l := by
  match l, h with
  | a :: b :: c :: d :: r, _ => rfl
theorem n4_bod (t : Tms) (l : List UInt8) (h : okT t) : n4 (bod t l) = nbr t := by
  rw [← n4_take _ (by rw [bod_length]; omega), bod_take, n4_by4 (nbr_lt h)]
/-- A part's section. -/
def sOf (p : Prt) : Sec := ⟨62, false, p.mac, 0, true, 0, 0, st (bod p.tm (ls p.txt))⟩
theorem sOf_size (p : Prt) : (sOf p).body.size = p.txt.size + 4 := by
  show (st (bod p.tm (ls p.txt))).size = _
  rw [st_size, bod_length, ← ls_size]
/-- A part's bytes. -/
def mby (p : Prt) : List UInt8 := Sct.bytes (sOf p)
theorem mby_length (p : Prt) : (mby p).length = p.txt.size + 16 := by unfold mby; rw [bytes_length, sOf_size]
theorem chk_sOf {p : Prt} (h : ckP p = 0) : chk (sOf p) = 0 := by
  obtain ⟨⟨⟨h1, h2⟩, _⟩, h3⟩ := ckP_good h
  obtain ⟨_, h4⟩ := check_len h3
  rw [← ls_size] at h4
  refine chk_ok ⟨by show (0 : Int) ≤ 62; decide, by show (62 : Int) ≤ 255; decide, h1, h2, by show (0 : Int) ≤ 0; decide, by show (0 : Int) ≤ 31; decide, by show (0 : Int) ≤ 0; decide, by show (0 : Int) ≤ 255; decide, by show (0 : Int) ≤ 0; decide, by show (0 : Int) ≤ 0; decide⟩ ?_
  rw [sOf_size]; omega
/-- Encode. -/
def ecP (p : Prt) : List UInt8 × Int := if ckP p = 0 then (mby p, 0) else ([], ckP p)
theorem ecP_ok {p : Prt} (h : ckP p = 0) : ecP p = (mby p, 0) := by unfold ecP; rw [if_pos h]
theorem ecP_no {p : Prt} (h : ckP p ≠ 0) : ecP p = ([], ckP p) := by unfold ecP; rw [if_neg h]
/-- What must be so in a part's section. -/
def good (s : Sec) : Prop := s.ver = 0 ∧ s.nw = true ∧ s.num = 0 ∧ s.la = 0 ∧ s.pv = false
instance (s : Sec) : Decidable (good s) := by unfold good; infer_instance
def pOf (s : Sec) : Prt := ⟨s.ex, ofN (n4 (ls s.body)), st ((ls s.body).drop 4)⟩
def rdP (s : Sec) : Prt × Int := if s.tb ≠ 62 then (zp, 14) else if ¬ good s then (zp, 12) else if s.body.size < 4 then (zp, 10) else if Dg.check ((ls s.body).drop 4) ≠ 0 then (zp, Dg.check ((ls s.body).drop 4)) else (pOf s, 0)
theorem rdP_kind {s : Sec} (h : s.tb ≠ 62) : rdP s = (zp, 14) := by unfold rdP; rw [if_pos h]
theorem rdP_form {s : Sec} (h : s.tb = 62) (k : ¬ good s) : rdP s = (zp, 12) := by unfold rdP; rw [if_neg (fun x => x h), if_pos k]
theorem rdP_short {s : Sec} (h : s.tb = 62) (k : good s) (g : s.body.size < 4) : rdP s = (zp, 10) := by unfold rdP; rw [if_neg (fun x => x h), if_neg (fun x => x k), if_pos g]
theorem rdP_bad {s : Sec} (h : s.tb = 62) (k : good s) (g : ¬ s.body.size < 4) (e : Dg.check ((ls s.body).drop 4) ≠ 0) : rdP s = (zp, Dg.check ((ls s.body).drop 4)) := by unfold rdP; rw [if_neg (fun x => x h), if_neg (fun x => x k), if_neg g, if_pos e]
theorem rdP_ok {s : Sec} (h : s.tb = 62) (k : good s) (g : ¬ s.body.size < 4) (e : Dg.check ((ls s.body).drop 4) = 0) : rdP s = (pOf s, 0) := by unfold rdP; rw [if_neg (fun x => x h), if_neg (fun x => x k), if_neg g, if_neg (fun x => x e)]
theorem rdP_err {s : Sec} (h : (rdP s).2 ≠ 0) : (rdP s).1 = zp := by
  by_cases h1 : s.tb = 62
  · by_cases h2 : good s
    · by_cases h3 : s.body.size < 4
      · rw [rdP_short h1 h2 h3]
      · by_cases h4 : Dg.check ((ls s.body).drop 4) = 0
        · rw [rdP_ok h1 h2 h3 h4] at h; exact absurd rfl h
        · rw [rdP_bad h1 h2 h3 h4]
    · rw [rdP_form h1 h2]
  · rw [rdP_kind h1]
theorem rdP_good {s : Sec} (h : (rdP s).2 = 0) : s.tb = 62 ∧ good s ∧ ¬ s.body.size < 4 ∧ Dg.check ((ls s.body).drop 4) = 0 ∧ rdP s = (pOf s, 0) := by
  by_cases h1 : s.tb = 62
  · by_cases h2 : good s
    · by_cases h3 : s.body.size < 4
      · rw [rdP_short h1 h2 h3] at h; exact absurd h (by decide)
      · by_cases h4 : Dg.check ((ls s.body).drop 4) = 0
        · exact ⟨h1, h2, h3, h4, rdP_ok h1 h2 h3 h4⟩
        · rw [rdP_bad h1 h2 h3 h4] at h; exact absurd h h4
    · rw [rdP_form h1 h2] at h; exact absurd h (by decide)
  · rw [rdP_kind h1] at h; exact absurd h (by decide)
/-- Decode. -/
def dcP (l : List UInt8) : Prt × Int := if (dec l).2 ≠ 0 then (zp, (dec l).2) else rdP (dec l).1
theorem dcP_bad {l : List UInt8} (h : (dec l).2 ≠ 0) : dcP l = (zp, (dec l).2) := by unfold dcP; rw [if_pos h]
theorem dcP_rd {l : List UInt8} (h : (dec l).2 = 0) : dcP l = rdP (dec l).1 := by unfold dcP; rw [if_neg (fun x => x h)]
theorem dcP_err {l : List UInt8} (h : (dcP l).2 ≠ 0) : (dcP l).1 = zp := by
  by_cases k : (dec l).2 = 0
  · rw [dcP_rd k] at h ⊢; exact rdP_err h
  · rw [dcP_bad k]
theorem pOf_sOf {p : Prt} (h : okT p.tm) : pOf (sOf p) = p := by
  have e : ls (sOf p).body = bod p.tm (ls p.txt) := ls_st _
  refine prt_ext rfl ?_ ?_
  · show ofN (n4 (ls (sOf p).body)) = p.tm
    rw [e, n4_bod _ _ h, ofN_nbr h]
  · show ls (st ((ls (sOf p).body).drop 4)) = _
    rw [e, bod_drop, ls_st]
theorem sOf_good (p : Prt) : good (sOf p) := ⟨rfl, rfl, rfl, rfl, rfl⟩
/-- Decode of Encode. -/
theorem dcP_mby {p : Prt} (h : ckP p = 0) : dcP (mby p) = (p, 0) := by
  obtain ⟨⟨_, h1⟩, h2⟩ := ckP_good h
  have e := dec_bytes (chk_sOf h)
  have e2 : ls (sOf p).body = bod p.tm (ls p.txt) := ls_st _
  unfold mby
  rw [dcP_rd (by rw [e]), e]
  show rdP (sOf p) = _
  rw [rdP_ok rfl (sOf_good p) (by rw [sOf_size]; omega) (by rw [e2, bod_drop]; exact h2), pOf_sOf h1]
theorem sOf_pOf {s : Sec} (h1 : s.tb = 62) (h2 : good s) (h3 : ¬ s.body.size < 4) : sOf (pOf s) = s := by
  obtain ⟨g1, g2, g3, g4, g5⟩ := h2
  have hl : 4 ≤ (ls s.body).length := by rw [← ls_size]; omega
  refine sec_ext h1.symm g5.symm rfl g1.symm g2.symm g3.symm g4.symm ?_
  show ls (st (bod (ofN (n4 (ls s.body))) (ls (st ((ls s.body).drop 4))))) = ls s.body
  rw [ls_st, ls_st]
  unfold bod
  rw [nbr_ofN, ← n4_take _ hl, by4_n4 (by rw [List.length_take]; omega), List.take_append_drop]
/-- Encode of Decode. -/
theorem mby_dcP {l : List UInt8} (h : (dcP l).2 = 0) : ckP (dcP l).1 = 0 ∧ mby (dcP l).1 = l ∧ (dec l).2 = 0 ∧ (dcP l).1 = pOf (dec l).1 := by
  by_cases k : (dec l).2 = 0
  · rw [dcP_rd k] at h ⊢
    obtain ⟨h1, h2, h3, h4, h5⟩ := rdP_good h
    obtain ⟨b1, b2⟩ := bytes_dec k
    obtain ⟨⟨_, _, f1, f2, _⟩, _⟩ := chk_fit b1
    rw [h5]
    refine ⟨?_, ?_, k, rfl⟩
    · have hm : okM (pOf (dec l).1) := ⟨⟨f1, f2⟩, okT_ofN (n4_lt _)⟩
      rw [ckP_ok hm]
      show Dg.check (ls (st ((ls (dec l).1.body).drop 4))) = 0
      rw [ls_st]; exact h4
    · unfold mby
      rw [sOf_pOf h1 h2 h3, b2]
  · rw [dcP_bad k] at h; exact absurd h k
theorem mby_inj {p q : Prt} (h : ckP p = 0) (k : ckP q = 0) (e : mby p = mby q) : p = q := by
  have := dcP_mby h
  rw [e, dcP_mby k] at this
  exact (congrArg Prod.fst this).symm
/-- No bytes of which one is another one are a section. -/
theorem dcP_turn {p : Prt} {l : List UInt8} (hl : l.length = (mby p).length) (i : Nat) (hp : ∀ j, j < l.length → cf l j ≠ cf (mby p) j → j = i) (hn : l ≠ mby p) : (dcP l).2 ≠ 0 := by
  have := dec_turn (s := sOf p) hl i hp hn
  rw [dcP_bad this]; exact this
/-- With other times. -/
def wt (p : Prt) (x : Tms) : Prt := { p with tm := x }
theorem ckP_wt {p : Prt} {x : Tms} (h : ckP p = 0) (k : okT x) : ckP (wt p x) = 0 := by
  obtain ⟨⟨h1, _⟩, h2⟩ := ckP_good h
  rw [ckP_ok (p := wt p x) ⟨h1, k⟩]; exact h2
theorem ckP_wtno {p : Prt} {x : Tms} (k : ¬ okT x) : ckP (wt p x) = 15 := ckP_no fun h => k h.2
def wtP (l : List UInt8) (x : Tms) : List UInt8 × Int := if (dcP l).2 ≠ 0 then ([], (dcP l).2) else if okT x then (mby (wt (dcP l).1 x), 0) else ([], 15)
theorem wtP_bad {l : List UInt8} {x : Tms} (h : (dcP l).2 ≠ 0) : wtP l x = ([], (dcP l).2) := by unfold wtP; rw [if_pos h]
theorem wtP_no {l : List UInt8} {x : Tms} (h : (dcP l).2 = 0) (k : ¬ okT x) : wtP l x = ([], 15) := by unfold wtP; rw [if_neg (fun y => y h), if_neg k]
theorem wtP_ok {l : List UInt8} {x : Tms} (h : (dcP l).2 = 0) (k : okT x) : wtP l x = (mby (wt (dcP l).1 x), 0) := by unfold wtP; rw [if_neg (fun y => y h), if_pos k]
theorem wtP_mby {p : Prt} {x : Tms} (h : ckP p = 0) (k : okT x) : wtP (mby p) x = (mby (wt p x), 0) := by
  rw [wtP_ok (by rw [dcP_mby h]) k, dcP_mby h]
theorem wtP_mbyno {p : Prt} {x : Tms} (h : ckP p = 0) (k : ¬ okT x) : wtP (mby p) x = ([], 15) := wtP_no (by rw [dcP_mby h]) k
theorem wt_wt (p : Prt) (x : Tms) : wt (wt p x) p.tm = p := rfl
/-- The parts of a section's bytes. -/
theorem mby_eq (p : Prt) : ∃ r : List UInt8, r.length = 4 ∧ mby p = hd8 (sOf p) ++ (by4 (nbr p.tm) ++ (ls p.txt ++ r)) := by
  refine ⟨four (mo ones (open8 (sOf p))), four_length _, ?_⟩
  unfold mby Sct.bytes sld open8
  have e2 : ls (sOf p).body = by4 (nbr p.tm) ++ ls p.txt := ls_st _
  rw [e2, List.append_assoc, List.append_assoc]
theorem hd8_wt (p : Prt) (x : Tms) : hd8 (sOf (wt p x)) = hd8 (sOf p) := by
  have e : (sOf (wt p x)).body.size = (sOf p).body.size := by rw [sOf_size, sOf_size]; rfl
  unfold hd8 flg vby
  rw [e]; rfl
theorem mby_head (p : Prt) : (mby p).take 8 = hd8 (sOf p) := by
  obtain ⟨r, _, e⟩ := mby_eq p
  rw [e, List.take_left' (hd8_length _)]
theorem mby_text (p : Prt) : ((mby p).drop 12).take p.txt.size = ls p.txt := by
  obtain ⟨r, _, e⟩ := mby_eq p
  rw [e, show (12 : Nat) = 8 + 4 from rfl, ← List.drop_drop, List.drop_left' (hd8_length _), List.drop_left' (by4_length _), List.take_left' (by rw [← ls_size])]
/-- The first twelve bytes. -/
theorem mby_twelve (p : Prt) : (mby p).take 12 = hd8 (sOf p) ++ by4 (nbr p.tm) := by
  obtain ⟨r, _, e⟩ := mby_eq p
  rw [e, ← List.append_assoc, List.take_left' (by rw [List.length_append, hd8_length, by4_length])]
theorem hd8_sOf (p : Prt) : hd8 (sOf p) = [62, Sct.u8 (176 + (p.txt.size + 13) / 256), Sct.u8 ((p.txt.size + 13) % 256), Sct.u8 (p.mac.toNat / 256), Sct.u8 (p.mac.toNat % 256), 193, 0, 0] := by
  unfold hd8 flg vby
  rw [sOf_size]
  rfl
end Go.Proofs.Ytdpgphidielajaa.Mpe
