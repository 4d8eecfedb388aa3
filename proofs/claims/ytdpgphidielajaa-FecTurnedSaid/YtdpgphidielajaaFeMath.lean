/-
  Columns of parity as sections (parts), as mathematics: what is wrong with a part, which bytes it is, which part bytes are, and what other times make of them. No program.
-/
import Derived.Test.YtdpgphidielajaaMpMath
namespace Go.Proofs.Ytdpgphidielajaa.Fec
open Gf Bit Crc Sct Tm Mpe
set_option maxRecDepth 100000
structure Fpt where
  pad : Int
  num : Int
  la : Int
  tm : Tms
  txt : ByteArray
def zf : Fpt := ⟨0, 0, 0, zt, ⟨#[]⟩⟩
theorem fpt_ext {a b : Fpt} (h1 : a.pad = b.pad) (h2 : a.num = b.num) (h3 : a.la = b.la) (h4 : a.tm = b.tm) (h5 : ls a.txt = ls b.txt) : a = b := by
  cases a; cases b
  simp only at h1 h2 h3 h4 h5
  subst h1 h2 h3 h4
  rename_i x y
  rw [show x = y by rw [← st_ls x, h5, st_ls]]
/-- The numbers and Times are what they may be. -/
def okN (p : Fpt) : Prop := (0 ≤ p.pad ∧ p.pad ≤ 191) ∧ (0 ≤ p.la ∧ p.la ≤ 63) ∧ (0 ≤ p.num ∧ p.num ≤ p.la)
def okR (p : Fpt) : Prop := okN p ∧ okT p.tm
def okZ (n : Nat) : Prop := n = 256 ∨ n = 512 ∨ n = 768 ∨ n = 1024
instance (p : Fpt) : Decidable (okN p) := by unfold okN; infer_instance
instance (p : Fpt) : Decidable (okR p) := by unfold okR; infer_instance
instance (n : Nat) : Decidable (okZ n) := by unfold okZ; infer_instance
/-- What is wrong with a part. -/
def ckF (p : Fpt) : Int := if okR p then (if okZ p.txt.size then 0 else 12) else 15
theorem ckF_no {p : Fpt} (h : ¬ okR p) : ckF p = 15 := by unfold ckF; rw [if_neg h]
theorem ckF_form {p : Fpt} (h : okR p) (k : ¬ okZ p.txt.size) : ckF p = 12 := by unfold ckF; rw [if_pos h, if_neg k]
theorem ckF_ok {p : Fpt} (h : okR p) (k : okZ p.txt.size) : ckF p = 0 := by unfold ckF; rw [if_pos h, if_pos k]
theorem ckF_good {p : Fpt} (h : ckF p = 0) : okR p ∧ okZ p.txt.size := by
  by_cases k : okR p
  · by_cases g : okZ p.txt.size
    · exact ⟨k, g⟩
    · rw [ckF_form k g] at h; omega
  · rw [ckF_no k] at h; omega
theorem okZ_le {n : Nat} (h : okZ n) : 256 ≤ n ∧ n ≤ 1024 := by unfold okZ at h; omega
/-- A part's section. -/
def sF (p : Fpt) : Sec := ⟨120, true, p.pad * 256 + 255, 31, true, p.num, p.la, st (bod p.tm (ls p.txt))⟩
theorem sF_size (p : Fpt) : (sF p).body.size = p.txt.size + 4 := by
  show (st (bod p.tm (ls p.txt))).size = _
  rw [st_size, bod_length, ← ls_size]
/-- A part's bytes. -/
def fby (p : Fpt) : List UInt8 := Sct.bytes (sF p)
theorem fby_length (p : Fpt) : (fby p).length = p.txt.size + 16 := by unfold fby; rw [bytes_length, sF_size]
theorem chk_sF {p : Fpt} (h : ckF p = 0) : chk (sF p) = 0 := by
  obtain ⟨⟨⟨⟨h1, h2⟩, ⟨h3, h4⟩, h5, h6⟩, _⟩, hz⟩ := ckF_good h
  have := okZ_le hz
  refine chk_ok ⟨by show (0 : Int) ≤ 120; decide, by show (120 : Int) ≤ 255; decide, by show 0 ≤ p.pad * 256 + 255; omega, by show p.pad * 256 + 255 ≤ 65535; omega, by show (0 : Int) ≤ 31; decide, by show (31 : Int) ≤ 31; decide, h3, by show p.la ≤ 255; omega, h5, h6⟩ ?_
  rw [sF_size]; omega
/-- Encode. -/
def ecF (p : Fpt) : List UInt8 × Int := if ckF p = 0 then (fby p, 0) else ([], ckF p)
theorem ecF_ok {p : Fpt} (h : ckF p = 0) : ecF p = (fby p, 0) := by unfold ecF; rw [if_pos h]
theorem ecF_no {p : Fpt} (h : ckF p ≠ 0) : ecF p = ([], ckF p) := by unfold ecF; rw [if_neg h]
/-- What must be so in a part's section. -/
def goodF (s : Sec) : Prop := s.ver = 31 ∧ s.nw = true ∧ s.pv = true ∧ s.ex % 256 = 255
instance (s : Sec) : Decidable (goodF s) := by unfold goodF; infer_instance
def fOf (s : Sec) : Fpt := ⟨s.ex / 256, s.num, s.la, ofN (n4 (ls s.body)), st ((ls s.body).drop 4)⟩
def rdF (s : Sec) : Fpt × Int := if s.tb ≠ 120 then (zf, 14) else if ¬ goodF s then (zf, 12) else if s.body.size < 4 then (zf, 10) else if ckF (fOf s) ≠ 0 then (zf, ckF (fOf s)) else (fOf s, 0)
theorem rdF_kind {s : Sec} (h : s.tb ≠ 120) : rdF s = (zf, 14) := by unfold rdF; rw [if_pos h]
theorem rdF_form {s : Sec} (h : s.tb = 120) (k : ¬ goodF s) : rdF s = (zf, 12) := by unfold rdF; rw [if_neg (fun x => x h), if_pos k]
theorem rdF_short {s : Sec} (h : s.tb = 120) (k : goodF s) (g : s.body.size < 4) : rdF s = (zf, 10) := by unfold rdF; rw [if_neg (fun x => x h), if_neg (fun x => x k), if_pos g]
theorem rdF_bad {s : Sec} (h : s.tb = 120) (k : goodF s) (g : ¬ s.body.size < 4) (e : ckF (fOf s) ≠ 0) : rdF s = (zf, ckF (fOf s)) := by unfold rdF; rw [if_neg (fun x => x h), if_neg (fun x => x k), if_neg g, if_pos e]
theorem rdF_ok {s : Sec} (h : s.tb = 120) (k : goodF s) (g : ¬ s.body.size < 4) (e : ckF (fOf s) = 0) : rdF s = (fOf s, 0) := by unfold rdF; rw [if_neg (fun x => x h), if_neg (fun x => x k), if_neg g, if_neg (fun x => x e)]
theorem rdF_err {s : Sec} (h : (rdF s).2 ≠ 0) : (rdF s).1 = zf := by
  by_cases h1 : s.tb = 120
  · by_cases h2 : goodF s
    · by_cases h3 : s.body.size < 4
      · rw [rdF_short h1 h2 h3]
      · by_cases h4 : ckF (fOf s) = 0
        · rw [rdF_ok h1 h2 h3 h4] at h; exact absurd rfl h
        · rw [rdF_bad h1 h2 h3 h4]
    · rw [rdF_form h1 h2]
  · rw [rdF_kind h1]
theorem rdF_good {s : Sec} (h : (rdF s).2 = 0) : s.tb = 120 ∧ goodF s ∧ ¬ s.body.size < 4 ∧ ckF (fOf s) = 0 ∧ rdF s = (fOf s, 0) := by
  by_cases h1 : s.tb = 120
  · by_cases h2 : goodF s
    · by_cases h3 : s.body.size < 4
      · rw [rdF_short h1 h2 h3] at h; exact absurd h (by decide)
      · by_cases h4 : ckF (fOf s) = 0
        · exact ⟨h1, h2, h3, h4, rdF_ok h1 h2 h3 h4⟩
        · rw [rdF_bad h1 h2 h3 h4] at h; exact absurd h h4
    · rw [rdF_form h1 h2] at h; exact absurd h (by decide)
  · rw [rdF_kind h1] at h; exact absurd h (by decide)
/-- Decode. -/
def dcF (l : List UInt8) : Fpt × Int := if (dec l).2 ≠ 0 then (zf, (dec l).2) else rdF (dec l).1
theorem dcF_bad {l : List UInt8} (h : (dec l).2 ≠ 0) : dcF l = (zf, (dec l).2) := by unfold dcF; rw [if_pos h]
theorem dcF_rd {l : List UInt8} (h : (dec l).2 = 0) : dcF l = rdF (dec l).1 := by unfold dcF; rw [if_neg (fun x => x h)]
theorem dcF_err {l : List UInt8} (h : (dcF l).2 ≠ 0) : (dcF l).1 = zf := by
  by_cases k : (dec l).2 = 0
  · rw [dcF_rd k] at h ⊢; exact rdF_err h
  · rw [dcF_bad k]
theorem fOf_sF {p : Fpt} (h : okT p.tm) : fOf (sF p) = p := by
  have e : ls (sF p).body = bod p.tm (ls p.txt) := ls_st _
  refine fpt_ext ?_ rfl rfl ?_ ?_
  · show (p.pad * 256 + 255) / 256 = p.pad; omega
  · show ofN (n4 (ls (sF p).body)) = p.tm
    rw [e, n4_bod _ _ h, ofN_nbr h]
  · show ls (st ((ls (sF p).body).drop 4)) = _
    rw [e, bod_drop, ls_st]
theorem sF_good (p : Fpt) : goodF (sF p) := ⟨rfl, rfl, rfl, by show (p.pad * 256 + 255) % 256 = 255; omega⟩
/-- Decode of Encode. -/
theorem dcF_fby {p : Fpt} (h : ckF p = 0) : dcF (fby p) = (p, 0) := by
  obtain ⟨⟨_, h1⟩, h2⟩ := ckF_good h
  have e := dec_bytes (chk_sF h)
  unfold fby
  rw [dcF_rd (by rw [e]), e]
  show rdF (sF p) = _
  rw [rdF_ok rfl (sF_good p) (by rw [sF_size]; omega) (by rw [fOf_sF h1]; exact h), fOf_sF h1]
theorem sF_fOf {s : Sec} (h1 : s.tb = 120) (h2 : goodF s) (h3 : ¬ s.body.size < 4) : sF (fOf s) = s := by
  obtain ⟨g1, g2, g3, g4⟩ := h2
  have hl : 4 ≤ (ls s.body).length := by rw [← ls_size]; omega
  refine sec_ext h1.symm g3.symm ?_ g1.symm g2.symm rfl rfl ?_
  · show s.ex / 256 * 256 + 255 = s.ex; omega
  · show ls (st (bod (ofN (n4 (ls s.body))) (ls (st ((ls s.body).drop 4))))) = ls s.body
    rw [ls_st, ls_st]
    unfold bod
    rw [nbr_ofN, ← n4_take _ hl, by4_n4 (by rw [List.length_take]; omega), List.take_append_drop]
/-- Encode of Decode. -/
theorem fby_dcF {l : List UInt8} (h : (dcF l).2 = 0) : ckF (dcF l).1 = 0 ∧ fby (dcF l).1 = l ∧ (dec l).2 = 0 ∧ (dcF l).1 = fOf (dec l).1 := by
  by_cases k : (dec l).2 = 0
  · rw [dcF_rd k] at h ⊢
    obtain ⟨h1, h2, h3, h4, h5⟩ := rdF_good h
    obtain ⟨b1, b2⟩ := bytes_dec k
    rw [h5]
    refine ⟨h4, ?_, k, rfl⟩
    unfold fby
    rw [sF_fOf h1 h2 h3, b2]
  · rw [dcF_bad k] at h; exact absurd h k
theorem fby_inj {p q : Fpt} (h : ckF p = 0) (k : ckF q = 0) (e : fby p = fby q) : p = q := by
  have := dcF_fby h
  rw [e, dcF_fby k] at this
  exact (congrArg Prod.fst this).symm
/-- No bytes of which one is another one are a section. -/
theorem dcF_turn {p : Fpt} {l : List UInt8} (hl : l.length = (fby p).length) (i : Nat) (hp : ∀ j, j < l.length → cf l j ≠ cf (fby p) j → j = i) (hn : l ≠ fby p) : (dcF l).2 ≠ 0 := by
  have := dec_turn (s := sF p) hl i hp hn
  rw [dcF_bad this]; exact this
/-- With other times. -/
def wtF (p : Fpt) (x : Tms) : Fpt := { p with tm := x }
theorem ckF_wt {p : Fpt} {x : Tms} (h : ckF p = 0) (k : okT x) : ckF (wtF p x) = 0 := by
  obtain ⟨⟨h1, _⟩, h2⟩ := ckF_good h
  exact ckF_ok (p := wtF p x) ⟨h1, k⟩ h2
theorem ckF_wtno {p : Fpt} {x : Tms} (k : ¬ okT x) : ckF (wtF p x) = 15 := ckF_no fun h => k h.2
def wtL (l : List UInt8) (x : Tms) : List UInt8 × Int := if (dcF l).2 ≠ 0 then ([], (dcF l).2) else if okT x then (fby (wtF (dcF l).1 x), 0) else ([], 15)
theorem wtL_bad {l : List UInt8} {x : Tms} (h : (dcF l).2 ≠ 0) : wtL l x = ([], (dcF l).2) := by unfold wtL; rw [if_pos h]
theorem wtL_no {l : List UInt8} {x : Tms} (h : (dcF l).2 = 0) (k : ¬ okT x) : wtL l x = ([], 15) := by unfold wtL; rw [if_neg (fun y => y h), if_neg k]
theorem wtL_ok {l : List UInt8} {x : Tms} (h : (dcF l).2 = 0) (k : okT x) : wtL l x = (fby (wtF (dcF l).1 x), 0) := by unfold wtL; rw [if_neg (fun y => y h), if_pos k]
/-- The parts of a section's bytes. -/
theorem fby_eq (p : Fpt) : ∃ r : List UInt8, r.length = 4 ∧ fby p = hd8 (sF p) ++ (by4 (nbr p.tm) ++ (ls p.txt ++ r)) := by
  refine ⟨four (mo ones (open8 (sF p))), four_length _, ?_⟩
  unfold fby Sct.bytes sld open8
  have e2 : ls (sF p).body = by4 (nbr p.tm) ++ ls p.txt := ls_st _
  rw [e2, List.append_assoc, List.append_assoc]
theorem fby_head (p : Fpt) : (fby p).take 8 = hd8 (sF p) := by
  obtain ⟨r, _, e⟩ := fby_eq p
  rw [e, List.take_left' (hd8_length _)]
theorem fby_text (p : Fpt) : ((fby p).drop 12).take p.txt.size = ls p.txt := by
  obtain ⟨r, _, e⟩ := fby_eq p
  rw [e, show (12 : Nat) = 8 + 4 from rfl, ← List.drop_drop, List.drop_left' (hd8_length _), List.drop_left' (by4_length _), List.take_left' (by rw [← ls_size])]
theorem fby_twelve (p : Fpt) : (fby p).take 12 = hd8 (sF p) ++ by4 (nbr p.tm) := by
  obtain ⟨r, _, e⟩ := fby_eq p
  rw [e, ← List.append_assoc, List.take_left' (by rw [List.length_append, hd8_length, by4_length])]
theorem hd8_sF (p : Fpt) : hd8 (sF p) = [120, Sct.u8 (240 + (p.txt.size + 13) / 256), Sct.u8 ((p.txt.size + 13) % 256), Sct.u8 ((p.pad * 256 + 255).toNat / 256), Sct.u8 ((p.pad * 256 + 255).toNat % 256), 255, Sct.u8 p.num.toNat, Sct.u8 p.la.toNat] := by
  unfold hd8 flg vby
  rw [sF_size]
  rfl
/-- No beginning of a section's bytes is a section. -/
theorem dec_cut {s : Sec} (h : chk s = 0) {n : Nat} (hn : n < (Sct.bytes s).length) : (dec ((Sct.bytes s).take n)).2 ≠ 0 := by
  intro e
  obtain ⟨e1, e2, _⟩ := dec_good e
  have hl : ((Sct.bytes s).take n).length = n := by rw [List.length_take]; omega
  have hb := need_bytes h
  by_cases h3 : n < 3
  · rw [need_short (by rw [hl]; exact h3)] at e1
    exact absurd e1 (by decide)
  · have hc : ∀ i, i < 3 → c ((Sct.bytes s).take n) i = c (Sct.bytes s) i := fun i hi => by unfold c; rw [cf_take_lt _ _ _ (by omega)]
    have h3' : ¬ (Sct.bytes s).length < 3 := by omega
    have hk : need ((Sct.bytes s).take n) = need (Sct.bytes s) := by
      unfold need len12
      rw [hl, hc 1 (by decide), hc 2 (by decide), if_neg h3, if_neg h3']
    rw [hk, hb, hl] at e2
    rw [bytes_length] at hn
    simp only at e2
    omega
theorem dcF_cut {p : Fpt} (h : ckF p = 0) {n : Nat} (hn : n < (fby p).length) : (dcF ((fby p).take n)).2 ≠ 0 := by
  have := dec_cut (chk_sF h) hn
  unfold fby
  rw [dcF_bad this]; exact this
end Go.Proofs.Ytdpgphidielajaa.Fec
