/-
  What the calls of package rs answer, in the forms that the laws of layer 3 use; the memory that was there stays.
-/
import Derived.Test.YtdlcloenihkkgaaRsImpB
namespace Go.Proofs.Ytdlcloenihkkgaa
open Go.RowKit Gf
set_option maxRecDepth 100000
/-- The answer is a parity of the data d; h makes the first result of it. -/
def EncPost (w0 : World) (d : List UInt8) (h : List UInt8 → List UInt8) (e : Ending) (w' : World) : Prop :=
  ∃ p : List UInt8, e = .returned (.tuple #[.string (st (h p)), .int .i64 0]) ∧ p.length = 64 ∧ IsWord (d ++ p) ∧ Keeps w0 w'
set_option maxRecDepth 100000 in
set_option maxHeartbeats 400000 in
theorem enc_arg (w0 : World) (d : ByteArray) (w : World) (hd : ¬ d.size = 191) (_hl : d.size ≤ 100000) (hk : Keeps w0 w) :
    Calls Try.prog 30 #[.string d] w fun e w' => e = .returned (.tuple #[.string (st []), .int .i64 1]) ∧ Keeps w0 w' := by
  have hb : (((d.size : Nat) : Int) == 191) = false := by rw [beq_eq_false_iff_ne]; omega
  go_enter Try.func30, Try.ntmps30
  go_wp2
  go_ret2
  exact ⟨rfl, hk⟩
set_option maxRecDepth 100000 in
set_option maxHeartbeats 400000 in
theorem enc_any (w0 : World) (d : ByteArray) (w : World) (hd : d.size = 191) (hk : Keeps w0 w) :
    Calls Try.prog 30 #[.string d] w (EncPost w0 (ls d) id) := by
  have hb : (((d.size : Nat) : Int) == 191) = true := by rw [beq_iff_eq]; omega
  have HD := Lib.hid hd
  clear hd
  go_enter Try.func30, Try.ntmps30
  go_wp2_with fail
  refine (parity_any w0 d w HD.out hk).mono ?_
  rintro e w1 ⟨p, rfl, hp, hw, hk1⟩
  have HP := Lib.hid hp
  have HW := Lib.hid hw
  clear hp hw
  go_wp2
  go_ret2
  exact ⟨p, rfl, HP.out, HW.out, hk1⟩
set_option maxRecDepth 100000 in
set_option maxHeartbeats 400000 in
theorem word_arg (w0 : World) (d : ByteArray) (w : World) (hd : ¬ d.size = 191) (hl : d.size ≤ 100000) (hk : Keeps w0 w) :
    Calls Try.prog 15 #[.string d] w fun e w' => e = .returned (.tuple #[.string (st []), .int .i64 1]) ∧ Keeps w0 w' := by
  go_enter Try.func15, Try.ntmps15
  go_wp2_with fail
  refine (enc_arg w0 d w hd hl hk).mono ?_
  rintro e w1 ⟨rfl, hk1⟩
  go_wp2
  go_ret2
  exact ⟨rfl, hk1⟩
set_option maxRecDepth 100000 in
set_option maxHeartbeats 400000 in
theorem word_any (w0 : World) (d : ByteArray) (w : World) (hd : d.size = 191) (hk : Keeps w0 w) :
    Calls Try.prog 15 #[.string d] w (EncPost w0 (ls d) (fun p => ls d ++ p)) := by
  have HC := Lib.hid (cat_st d)
  have hdl : d.size ≤ 1000 := by omega
  have HD := Lib.hid hd
  clear hd
  go_enter Try.func15, Try.ntmps15
  go_wp2_with fail
  refine (enc_any w0 d w HD.out hk).mono ?_
  rintro e w1 ⟨p, rfl, hp, hw, hk1⟩
  rw [id]
  have hps : (st p).size = 64 := by rw [st_size]; exact hp
  have HP := Lib.hid hp
  have HW := Lib.hid hw
  clear hp hw
  go_wp2
  go_ret2
  exact ⟨p, by rw [← HC.out]; rfl, HP.out, HW.out, hk1⟩
end Go.Proofs.Ytdlcloenihkkgaa
