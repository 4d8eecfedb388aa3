/-
  What the document's Check of a section's bytes answers, and the section that the law makes of a body. The memory that was there stays.
-/
import Derived.Test.YtifbomppgflkfaaDoorPrRef
import Derived.Test.YtifbomppgflkfaaDoorScE
namespace Go.Proofs.YtifbomppgflkfaaDoor
open Go.RowKit Gf Pk Pr Sct
set_option maxRecDepth 100000
/-- What is wrong with the bytes of a section that is to be packed. -/
def ck15 (l : List UInt8) : Int := if (need l).2 ≠ 0 then (need l).2 else if (l.length : Int) < (need l).1 then 10 else if (need l).1 < (l.length : Int) then 11 else if cf l 0 = 255 then 12 else 0
theorem ck15_need {l : List UInt8} (h : (need l).2 ≠ 0) : ck15 l = (need l).2 := by unfold ck15; rw [if_pos h]
theorem ck15_short {l : List UInt8} (h : (need l).2 = 0) (k : (l.length : Int) < (need l).1) : ck15 l = 10 := by unfold ck15; rw [if_neg (fun x => x h), if_pos k]
theorem ck15_long {l : List UInt8} (h : (need l).2 = 0) (k : (need l).1 < (l.length : Int)) : ck15 l = 11 := by unfold ck15; rw [if_neg (fun x => x h), if_neg (by omega), if_pos k]
theorem ck15_form {l : List UInt8} (h : (need l).2 = 0) (k : (need l).1 = (l.length : Int)) (g : cf l 0 = 255) : ck15 l = 12 := by unfold ck15; rw [if_neg (fun x => x h), if_neg (by omega), if_neg (by omega), if_pos g]
theorem ck15_ok {l : List UInt8} (h : (need l).2 = 0) (k : (need l).1 = (l.length : Int)) (g : cf l 0 ≠ 255) : ck15 l = 0 := by unfold ck15; rw [if_neg (fun x => x h), if_neg (by omega), if_neg (by omega), if_neg g]
theorem ck15_good {l : List UInt8} (h : ck15 l = 0) : 12 ≤ l.length ∧ l.length ≤ 4096 := by
  by_cases h1 : (need l).2 = 0
  · obtain ⟨_, _, g1, g2, g3⟩ := need_good h1
    by_cases h2 : (l.length : Int) < (need l).1
    · rw [ck15_short h1 h2] at h; omega
    · by_cases h3 : (need l).1 < (l.length : Int)
      · rw [ck15_long h1 h3] at h; omega
      · omega
  · rw [ck15_need h1] at h; exact absurd h h1
/-- The section that is made of a body. -/
def mdS (b : ByteArray) : Sec := ⟨66, false, 0, 0, true, 0, 0, b⟩
def mdB (b : ByteArray) : List UInt8 := Sct.bytes (mdS b)
theorem mdS_chk {b : ByteArray} (h : b.size ≤ 4084) : chk (mdS b) = 0 :=
  chk_ok ⟨by show (0 : Int) ≤ 66; decide, by show (66 : Int) ≤ 255; decide, by show (0 : Int) ≤ 0; decide, by show (0 : Int) ≤ 65535; decide, by show (0 : Int) ≤ 0; decide, by show (0 : Int) ≤ 31; decide, by show (0 : Int) ≤ 0; decide, by show (0 : Int) ≤ 255; decide, by show (0 : Int) ≤ 0; decide, by show (0 : Int) ≤ 0; decide⟩ (by show ¬ 4084 < b.size; omega)
theorem mdB_length (b : ByteArray) : (mdB b).length = b.size + 12 := bytes_length (mdS b)
theorem mdB_ck {b : ByteArray} (h : b.size ≤ 4084) : ck15 (mdB b) = 0 := by
  have hn := need_bytes (mdS_chk h)
  have hl := mdB_length b
  refine ck15_ok (by unfold mdB; rw [hn]) (by unfold mdB at hl ⊢; rw [hn, hl]; rfl) ?_
  show cf (sld (open8 (mdS b))) 0 ≠ 255
  intro e
  have : cf (sld (open8 (mdS b))) 0 = 66 := rfl
  rw [this] at e
  exact absurd e (by decide)
theorem prmade_any (w0 : World) (b : ByteArray) (w : World) (hb : b.size ≤ 4084) (hk : Keeps w0 w) : Calls Tryd.prog 21 #[.string b] w fun e w' => e = .returned (.string (st (mdB b))) ∧ Keeps w0 w' := by
  have HB := Lib.hid (fun W => scrbytes_any W (mdS b) W (mdS_chk hb) (Keeps.refl W))
  have HK := Lib.hid hk
  obtain ⟨Y, hY⟩ : ∃ Y, st (mdB b) = Y := ⟨_, rfl⟩
  unfold mdB at hY
  rw [hY] at HB
  unfold mdS at HB
  clear hk
  have hg : st (mdB b) = Y := hY
  rw [hg]
  clear hY hg
  go_enter Tryd.func21, Tryd.ntmps21
  go_wp2_with (go_at_call 31; refine (HB.out _).mono ?_; rintro _ w1 ⟨rfl, k1⟩; have HK1 := Lib.hid (HK.out.trans k1); clear k1)
  go_ret
  exact ⟨rfl, HK1.out⟩
def Ck15Post (w0 : World) (l : List UInt8) (e : Ending) (w' : World) : Prop := e = .returned (.int .i64 (ck15 l)) ∧ Keeps w0 w'
theorem Ck15Post.of {w0 W : World} {l : List UInt8} {n : Int} (e : ck15 l = n) (k : Keeps w0 W) : Ck15Post w0 l (.returned (.int .i64 n)) W := ⟨by rw [e], k⟩
end Go.Proofs.YtifbomppgflkfaaDoor
