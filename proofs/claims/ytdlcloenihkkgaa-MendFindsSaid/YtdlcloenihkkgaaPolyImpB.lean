/-
  What Clone and Trim answer: the same bytes, and those without the bytes 0 at the end; the memory that was there stays.
-/
import Derived.Shelf.Pu.Clone
import Derived.Test.YtdlcloenihkkgaaPolyImpA
namespace Go.Proofs.Ytdlcloenihkkgaa
open Go.RowKit Go.Shelf Gf
set_option maxRecDepth 100000
def renC : Ren where
  f := fun n => if n = 25 then 85 else 0
  t := fun n => if n = 0 then 0 else if n = 3 then 3 else if n = 4 then 4 else if n = 5 then 5 else if n = 9 then 9 else if n = 37 then 34 else if n = 47 then 106 else 0
  g := fun _ => 0
theorem laysC : LaysPu.n25 Try.prog renC where
  mixed := by kernel_rfl
  f25 := by kernel_rfl
  t0 := by kernel_rfl
  a0 := fun w => by exact Try.isAgg0 w
  z0 := fun w => by exact Try.sizeOf0 w
  v0 := fun w => by exact Try.zeroValue0 w
  i0 := by kernel_rfl
  t3 := by kernel_rfl
  a3 := fun w => by exact Try.isAgg3 w
  z3 := fun w => by exact Try.sizeOf3 w
  v3 := fun w => by exact Try.zeroValue3 w
  i3 := by kernel_rfl
  t4 := by kernel_rfl
  a4 := fun w => by exact Try.isAgg4 w
  z4 := fun w => by exact Try.sizeOf4 w
  v4 := fun w => by exact Try.zeroValue4 w
  i4 := by kernel_rfl
  t5 := by kernel_rfl
  a5 := fun w => by exact Try.isAgg5 w
  z5 := fun w => by exact Try.sizeOf5 w
  v5 := fun w => by exact Try.zeroValue5 w
  i5 := by kernel_rfl
  t9 := by kernel_rfl
  a9 := fun w => by exact Try.isAgg9 w
  z9 := fun w => by exact Try.sizeOf9 w
  v9 := fun w => by exact Try.zeroValue9 w
  i9 := by kernel_rfl
  t37 := by kernel_rfl
  a37 := fun w => by exact Try.isAgg34 w
  z37 := fun w => by exact Try.sizeOf34 w
  v37 := fun w => by exact Try.zeroValue34 w
  i37 := by kernel_rfl
  t47 := by kernel_rfl
  a47 := fun w => by exact Try.isAgg106 w
  z47 := fun w => by exact Try.sizeOf106 w
  v47 := fun w => by exact Try.zeroValue106 w
  i47 := by kernel_rfl
theorem lclone_any (s : ByteArray) (w : World) (hlim : s.size ≤ 1000000000) :
    Calls Try.prog 85 #[.string s] w fun e w' => e = .returned (.string s) ∧ Below w.heap.size w w' := AnyPu.stringslite_Clone laysC s w (by omega)
set_option maxHeartbeats 400000 in
theorem clone_any (s : ByteArray) (w : World) (hlim : s.size ≤ 1000000000) :
    Calls Try.prog 82 #[.string s] w fun e w' => e = .returned (.string s) ∧ Below w.heap.size w w' := by
  go_enter Try.func82, Try.ntmps82
  go_wp2_with fail
  refine (lclone_any s w hlim).mono ?_
  rintro e w1 ⟨rfl, hb⟩
  go_wp2
  go_ret
  exact ⟨rfl, hb⟩
theorem trim_take (p : List UInt8) : p.take (trim p).length = trim p := by
  refine List.ext_getElem ?_ fun i h1 h2 => ?_
  · rw [List.length_take]; have := trim_le p; omega
  · rw [List.getElem_take]
    have h3 : i < p.length := by have := trim_le p; omega
    rw [← cf_lt h2, cf_trim, cf_lt h3]
theorem ls_cut (p : ByteArray) : p.extract 0 (trim (ls p)).length = st (trim (ls p)) := by
  have : ls (p.extract 0 (trim (ls p)).length) = trim (ls p) := by rw [ls_extract, trim_take]
  have h2 := congrArg st this
  rw [st_ls] at h2; exact h2
set_option maxHeartbeats 800000 in
theorem ptrim_big (w0 : World) (p : ByteArray) (w : World) (hp : p.size ≤ 1000000) (hk : Keeps w0 w) :
    Calls Try.prog 74 #[.string p] w fun e w' => e = .returned (.string (st (trim (ls p)))) ∧ Keeps w0 w' := by
  have HL := Lib.hid (ls_cut p)
  have hle : ((trim (ls p)).length : Int) ≤ (p.size : Int) := by have := trim_le (ls p); rw [← ls_size] at this; omega
  have hst : (st (trim (ls p))).size ≤ 1000000000 := by rw [st_size]; omega
  go_enter Try.func74, Try.ntmps74
  go_wp2_with fail
  refine (pdeg_big w0 p w hp hk).mono ?_
  rintro e w1 ⟨rfl, hk1⟩
  generalize hm : (trim (ls p)).length = m at *
  have e1 : ((m : Int) - 1 + 1) = (m : Int) := by omega
  go_wp2_with fail
  rw [HL.out]
  refine (clone_any _ w1 hst).mono ?_
  rintro e w2 ⟨rfl, hb⟩
  go_wp2
  go_ret
  exact ⟨rfl, hk1.trans hb⟩
end Go.Proofs.Ytdlcloenihkkgaa
