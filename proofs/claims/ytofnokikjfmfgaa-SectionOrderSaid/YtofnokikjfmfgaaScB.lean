/-
  What Plain, same, few and Need answer, and the document's Need: for texts of up to a million bytes. The memory that was there stays.
-/
import Derived.Test.YtofnokikjfmfgaaScA
import Derived.Test.YtofnokikjfmfgaaBitsLaw
namespace Go.Proofs.Ytofnokikjfmfgaa
open Go.RowKit Gf Sct Bit
set_option maxRecDepth 100000
/-- A section that is answered. -/
def SecPost (w0 : World) (s : Sec) (e : Ending) (w' : World) : Prop := e = .returned (secV s) ∧ Keeps w0 w'
/-- What is the same in all sections of a text. -/
def smv (s : Sec) : Sec := ⟨s.tb, s.pv, s.ex, s.ver, s.nw, 0, s.la, ⟨#[]⟩⟩
theorem scsame_any (w0 : World) (s : Sec) (w : World) (hk : Keeps w0 w) : Calls Try.prog 55 #[secV s] w (SecPost w0 (smv s)) := by
  obtain ⟨tb, pv, ex, ver, nw, num, la, S⟩ := s
  go_enter Try.func55, Try.ntmps55
  go_wp2
  exact bodyPost_ret (v := secV ⟨tb, pv, ex, ver, nw, 0, la, ⟨#[]⟩⟩) (by simp [results, Try.results55, go_sem]) rfl ⟨rfl, (hk.alloc _).alloc _⟩
def fewB (s : ByteArray) : Bool := decide (s.size ≤ 600) || (decide (4084 < s.size) && decide (s.size ≤ 5000))
/-- Get, its answer by a name. -/
theorem get_at {b : Nat} {s : ByteArray} {p : Nat} {w : World} (h : InAt b 0 s p w) (N : Nat) {q : Nat} {v : Int} (hv : un (num (((ob (ls s)).drop p).take N)) = v) (hq : p + N = q) (hN : N ≤ 64) (hs : s.size ≤ 1000000) (hp : p + N ≤ 8 * s.size) :
    Calls Try.prog 43 #[.pointer (some ⟨b, 0, none⟩), .int .i64 (N : Int)] w fun x w' => x = .returned (.int .u64 v) ∧ InAt b 0 s q w' ∧ Only b w w' := by
  have := get_ok h N hN hs hp
  rwa [hv, hq] at this
def NeedPost (w0 : World) (l : List UInt8) (e : Ending) (w' : World) : Prop := e = .returned (.tuple #[.int .i64 (need l).1, .int .i64 (need l).2]) ∧ Keeps w0 w'
theorem NeedPost.of {w0 W : World} {l : List UInt8} {n r : Int} (e : need l = (n, r)) (k : Keeps w0 W) : NeedPost w0 l (.returned (.tuple #[.int .i64 n, .int .i64 r])) W := by unfold NeedPost; rw [e]; exact ⟨rfl, k⟩
theorem cI {l : List UInt8} {i : Nat} {x : Int} (h : un (c l i) = x) : (c l i : Int) = x ∧ 0 ≤ x ∧ x ≤ 255 := by
  have := c_lt l i
  unfold un at h
  omega
end Go.Proofs.Ytofnokikjfmfgaa
