/-
  What is made is a datagram whose beginning tells how it was made. No program.
-/
import Derived.Test.YtggokcakikkdgaaDgMath
namespace Go.Proofs.Ytggokcakikkdgaa.Dg
open Gf
set_option maxRecDepth 100000
theorem make6_length {f t : List UInt8} {p : UInt8} {b : List UInt8} (hf : f.length = 16) (ht : t.length = 16) : (make6 f t p b).length = 40 + b.length := by
  unfold make6 ahead6
  simp only [List.length_append, pr_length, hf, ht, List.length_cons, List.length_nil]
theorem make4_length {f t : List UInt8} {p : UInt8} {b : List UInt8} (hf : f.length = 4) (ht : t.length = 4) : (make4 f t p b).length = 20 + b.length := by
  unfold make4 head4
  simp only [List.length_append, ahead4_length, pr_length, hf, ht]
theorem pr_num {k : Nat} (h : k ≤ 65535) : ((UInt8.ofNat (k / 256)).toNat : Int) * 256 + ((UInt8.ofNat k).toNat : Int) = (k : Int) := by
  rw [UInt8.toNat_ofNat_of_lt' (show k / 256 < 256 by omega), UInt8.toNat_ofNat']
  omega
theorem may_ok {v h l p least : Int} (h1 : ¬ h < least) (h2 : ¬ l < h) (h3 : ¬ l > 4080) : may ⟨v, h, l, p⟩ least = (⟨v, h, l, p⟩, 0) := by
  unfold may
  rw [if_neg (by show ¬ (h < least ∨ l < h); omega), if_neg (by show ¬ l > 4080; exact h3)]
theorem peek_make6 {f t : List UInt8} {p : UInt8} {b : List UInt8} (hf : f.length = 16) (ht : t.length = 16) (hb : b.length ≤ 4040) : peek (make6 f t p b) = (⟨6, 40, 40 + (b.length : Int), (p.toNat : Int)⟩, 0) := by
  have hl := make6_length (p := p) (b := b) hf ht
  have h0 : n (make6 f t p b) 0 = 96 := rfl
  have hd : h6 (make6 f t p b) = ⟨6, 40, 40 + (b.length : Int), (p.toNat : Int)⟩ := by
    unfold h6
    have h4 : n (make6 f t p b) 4 * 256 + n (make6 f t p b) 5 = (b.length : Int) := pr_num (by omega)
    rw [h4]; rfl
  unfold peek
  rw [if_neg (by omega), h0, if_neg (by decide), if_pos (by decide), if_neg (by omega), hd]
  exact may_ok (by omega) (by omega) (by omega)
theorem check_make6 {f t : List UInt8} {p : UInt8} {b : List UInt8} (hf : f.length = 16) (ht : t.length = 16) (hb : b.length ≤ 4040) : check (make6 f t p b) = 0 := by
  have hl := make6_length (p := p) (b := b) hf ht
  unfold check
  rw [peek_make6 hf ht hb, if_neg (by simp), hl, if_neg (by simp), if_neg (by simp), if_neg (by simp)]
theorem peek_make4 {f t : List UInt8} {p : UInt8} {b : List UInt8} (hf : f.length = 4) (ht : t.length = 4) (hb : b.length ≤ 4060) : peek (make4 f t p b) = (⟨4, 20, 20 + (b.length : Int), (p.toNat : Int)⟩, 0) := by
  have hl := make4_length (p := p) (b := b) hf ht
  have h0 : n (make4 f t p b) 0 = 69 := rfl
  have hd : h4 (make4 f t p b) = ⟨4, 20, 20 + (b.length : Int), (p.toNat : Int)⟩ := by
    unfold h4
    have h4 : n (make4 f t p b) 2 * 256 + n (make4 f t p b) 3 = ((20 + b.length : Nat) : Int) := pr_num (by omega)
    rw [h4, h0]
    have : ((20 + b.length : Nat) : Int) = 20 + (b.length : Int) := by omega
    rw [this]; rfl
  unfold peek
  rw [if_neg (by omega), h0, if_pos (by decide), if_neg (by omega), hd]
  exact may_ok (by omega) (by omega) (by omega)
theorem head4_take {f t : List UInt8} {p : UInt8} {b : List UInt8} (hf : f.length = 4) (ht : t.length = 4) : (make4 f t p b).take 20 = head4 f t p (20 + b.length) := by
  unfold make4
  rw [List.take_left' (by unfold head4; simp only [List.length_append, ahead4_length, pr_length, hf, ht])]
theorem check_make4 {f t : List UInt8} {p : UInt8} {b : List UInt8} (hf : f.length = 4) (ht : t.length = 4) (hb : b.length ≤ 4060) : check (make4 f t p b) = 0 := by
  have hl := make4_length (p := p) (b := b) hf ht
  have hz : csum ((make4 f t p b).take (20 : Int).toNat) = 0 := by
    rw [show (20 : Int).toNat = 20 from rfl, head4_take hf ht]
    unfold head4
    exact csum_made _ _ (by rw [ahead4_length]) (by unfold ahead4; rw [List.append_assoc, tot_two [69, 0] rfl, tot_pair, show (69 : UInt8).toNat = 69 from rfl]; omega)
  unfold check
  rw [peek_make4 hf ht hb, if_neg (by simp), hl, if_neg (by simp), if_neg (by simp), if_neg (fun h => h.2 hz)]
end Go.Proofs.Ytggokcakikkdgaa.Dg
