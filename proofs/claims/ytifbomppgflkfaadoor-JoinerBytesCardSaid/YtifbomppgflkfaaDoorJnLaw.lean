/-
  The example of layer 16, and that a nil joiner has nothing, whatever package joiner's calls are that answer as is asked (JnApi). The memory that was there stays.
-/
import Derived.Test.YtifbomppgflkfaaDoorJnApi
import Derived.Test.YtifbomppgflkfaaDoorPrSec
namespace Go.Proofs.YtifbomppgflkfaaDoor
open Go.RowKit Gf Pk Jn
set_option maxRecDepth 100000
theorem okS_mdB {b : ByteArray} (h : b.size ≤ 4084) : okS (mdB b) := by
  have hn := Sct.need_bytes (mdS_chk h)
  have hl := mdB_length b
  refine ⟨by unfold mdB; rw [hn], by unfold mdB at hl ⊢; rw [hn, hl]; rfl, ?_⟩
  intro e
  have : cf (mdB b) 0 = 66 := rfl
  rw [this] at e
  exact absurd e (by decide)
def exH : ByteArray := ⟨#[104, 105]⟩
def exQ : Pkt := ⟨17, true, 0, false, (⟨#[0]⟩ : ByteArray) ++ st (mdB exH) ++ ⟨#[255, 255]⟩⟩
theorem exQ_body : ls exQ.body = 0 :: (mdB exH ++ [255, 255]) := by
  show ls ((⟨#[0]⟩ : ByteArray) ++ st (mdB exH) ++ ⟨#[255, 255]⟩) = _
  rw [ls_append, ls_append, ls_st]; rfl
theorem exQ_size : exQ.body.size = 17 := by rw [ls_size, exQ_body, List.length_cons, List.length_append, mdB_length]; rfl
theorem exQ_ck : ckP exQ = 0 := ckP_ok (by unfold okP exQ; decide) (by rw [exQ_size]; decide)
theorem exQ_feed : (Jn.feed 17 js0 exQ).2 = ([mdB exH], 0) ∧ (Jn.feed 17 js0 exQ).1.hold = [] := by
  have hs : okS (mdB exH) := okS_mdB (by decide)
  have ht : tk (mdB exH ++ [255, 255]) = ⟨[mdB exH], [], false, true⟩ := by
    rw [tk_cons hs, tk_end (by decide) (by decide)]
  have hl : ¬ (ls exQ.body).length - 1 < (cf (ls exQ.body) 0).toNat := by
    rw [exQ_body]; show ¬ _ < (0 : UInt8).toNat; exact Nat.not_lt_zero _
  have hd : (ls exQ.body).drop (1 + (cf (ls exQ.body) 0).toNat) = mdB exH ++ [255, 255] := by rw [exQ_body]; rfl
  unfold Jn.feed
  rw [if_neg (by rw [exQ_ck]; exact fun x => x rfl), if_neg (fun x => x rfl), if_neg (fun x => x.elim (by rw [exQ_size]; decide) (fun y => by cases y)), if_neg (by show ¬ false = true; decide)]
  have hf : lookJ js0 exQ = ⟨[], false, some (exQ.count, ls exQ.body), 0⟩ := rfl
  have hg : gapE js0 exQ = 0 := rfl
  rw [hf, hg]
  unfold feedB
  rw [if_neg (by show ¬ true = false; decide), if_neg hl, hd, ht]
  exact ⟨rfl, rfl⟩
set_option maxHeartbeats 3200000 in
theorem awake16_any (A : JnApi) (w0 w : World) (hk : Keeps w0 w) (hO : A.Ok w) : Calls Tryd.prog 9 #[] w fun e w' => e = .returned (.bool true) ∧ Keeps w0 w' := by
  have HN := Lib.hid (A.newOk 17 w (by decide))
  have HM := Lib.hid (fun W => prmade_any W exH W (by decide) (Keeps.refl W))
  obtain ⟨M, hM⟩ : ∃ M, st (mdB exH) = M := ⟨_, rfl⟩
  have hMz : M.size = 14 := by rw [← hM, st_size, mdB_length]; rfl
  obtain ⟨X1, hX1⟩ : ∃ X, (⟨#[0]⟩ : ByteArray) ++ M = X := ⟨_, rfl⟩
  have hX1z : X1.size = 15 := by rw [← hX1, ByteArray.size_append, hMz]; rfl
  obtain ⟨X2, hX2⟩ : ∃ X, X1 ++ (⟨#[255, 255]⟩ : ByteArray) = X := ⟨_, rfl⟩
  have hQ : exQ = ⟨17, true, 0, false, X2⟩ := by unfold exQ; rw [hM, hX1, hX2]
  have HF := Lib.hid (fun S p W (h : A.At S p 17 js0 W) (k : Keeps w W) => A.feed exQ h (A.okK hO k) (by rw [exQ_size]; decide) (by decide) (by decide))
  unfold JnGoes at HF
  obtain ⟨e1, e2⟩ := exQ_feed
  obtain ⟨⟨J', out, er⟩, hq⟩ : ∃ q, Jn.feed 17 js0 exQ = q := ⟨_, rfl⟩
  rw [hq] at e1 e2
  simp only [hq] at HF
  cases e1
  simp only at e2
  rw [hQ] at HF
  unfold exH at HM hM
  have hgx : st (mdB exH) = M := hM
  rw [hM] at HM
  have f1 : ¬ 9223372036854775807 < 1 + M.size := by omega
  have f2 : ¬ 9223372036854775807 < X1.size + 2 := by omega
  have HKK := Lib.hid hk
  have HE2 := Lib.hid e2
  have HGX := Lib.hid hgx
  clear hM hQ hq hk hO hgx
  go_enter Tryd.func9, Tryd.ntmps9
  go_wp2_with (first | (go_at_call 8; refine HN.out.mono ?_; rintro _ w1 ⟨p, S, rfl, a1, k1, s1⟩; have HA1 := Lib.hid a1; have HK1 := Lib.hid k1; have HS1 := Lib.hid s1; clear a1 k1 s1) | (go_at_call 21; refine (HM.out _).mono ?_; rintro _ w2 ⟨rfl, k2⟩; have HA2 := Lib.hid (A.foot HA1.out (k2.foot (fun _ => False)) (fun _ _ x => x)); have HK2 := Lib.hid (HK1.out.trans k2); clear k2) | (go_at_call 10; refine (HF.out S p _ HA2.out HK2.out).mono ?_; rintro _ w3 ⟨a3, cap3, S3, rfl, t3, _, at3, ft3, _, _⟩; obtain ⟨b3, o3, rfl, c3⟩ := t3.get (k := 0) (by decide); have c3 : w3.cell? ⟨b3, o3, none⟩ = some (.string M) := by { rw [← HGX.out]; exact c3 }; have HA3 := Lib.hid at3; have HK3 := Lib.hid (ft3.keeps HK2.out HS1.out); clear t3 at3 ft3) | (go_at_call 14; refine (A.held HA3.out).mono ?_; rintro _ w4 ⟨rfl, k4⟩; rw [HE2.out, show st ([] : List UInt8) = ⟨#[]⟩ from rfl]; have HK4 := Lib.hid (HK3.out.trans k4); clear k4))
  go_ret
  exact ⟨rfl, HKK.out.trans HK4.out⟩
end Go.Proofs.YtifbomppgflkfaaDoor
