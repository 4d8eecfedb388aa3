/-
  What layer 17's statements ask of package psi's calls (nothing is said here of how they do it), the example, and two tables that are compared. The memory that was there stays.
-/
import Derived.Test.YtebfihghfkcicaaPsQ
import Derived.Test.YtebfihghfkcicaaPsQM
import Derived.Test.YtebfihghfkcicaaPsNew
namespace Go.Proofs.Ytebfihghfkcicaa
open Go.RowKit Gf Ps
set_option maxRecDepth 100000
/-- A Pat with nothing in it, and a Pmt. -/
abbrev zPat (a : Option Addr) (c : Nat) : Value := .agg #[.int .i64 0, .int .i64 0, .slice a 0 c]
abbrev zPmt (a : Option Addr) (c : Nat) : Value := .agg #[.int .i64 0, .int .i64 0, .int .i64 0, .string ⟨#[]⟩, .slice a 0 c]
/-- What is asked of package psi: Ok tells what its package-level tables are to hold. -/
structure PsApi where
  Ok : World → Prop
  okK : ∀ {w w'}, Ok w → Keeps w w' → Ok w'
  epOk : ∀ {x : Pat} {a : Option Addr} {cap : Nat} {w : World}, IsE rowPr w a x.l.length x.l → x.l.length ≤ cap → cap ≤ maxLen → Ok w → PatOk x → Calls Try.prog 9 #[patV x a cap] w fun e w' => e = .returned (.tuple #[.string (st (patE x)), .int .i64 0]) ∧ Keeps w w'
  epNo : ∀ {x : Pat} {a : Option Addr} {cap : Nat} {w : World}, IsE rowPr w a x.l.length x.l → x.l.length ≤ cap → cap ≤ maxLen → Ok w → ¬ PatOk x → x.l.length ≤ 300 → Calls Try.prog 9 #[patV x a cap] w fun e w' => (∃ r : Int, e = .returned (.tuple #[.string ⟨#[]⟩, .int .i64 r]) ∧ r ≠ 0) ∧ Keeps w w'
  emOk : ∀ {x : Pmt} {a : Option Addr} {cap : Nat} {w : World}, IsE rowSt w a x.l.length x.l → x.l.length ≤ cap → cap ≤ maxLen → Ok w → PmtOk x → Calls Try.prog 14 #[pmtV x a cap] w fun e w' => e = .returned (.tuple #[.string (st (pmtE x)), .int .i64 0]) ∧ Keeps w w'
  emNo : ∀ {x : Pmt} {a : Option Addr} {cap : Nat} {w : World}, IsE rowSt w a x.l.length x.l → x.l.length ≤ cap → cap ≤ maxLen → Ok w → ¬ PmtOk x → fewM x = true → Calls Try.prog 14 #[pmtV x a cap] w fun e w' => (∃ r : Int, e = .returned (.tuple #[.string ⟨#[]⟩, .int .i64 r]) ∧ r ≠ 0) ∧ Keeps w w'
  dpOk : ∀ {x : Pat} (t : ByteArray) {w : World}, Ok w → PatOk x → ls t = patE x → Calls Try.prog 10 #[.string t] w fun e w' => (∃ a cap, e = .returned (.tuple #[patV x a cap, .int .i64 0]) ∧ IsE rowPr w' a x.l.length x.l ∧ x.l.length ≤ cap ∧ cap ≤ maxLen) ∧ Keeps w w'
  dpPmt : ∀ {y : Pmt} (t : ByteArray) {w : World}, Ok w → PmtOk y → ls t = pmtE y → Calls Try.prog 10 #[.string t] w fun e w' => (∃ a cap, e = .returned (.tuple #[zPat a cap, .int .i64 14])) ∧ Keeps w w'
  dpNo : ∀ (t : ByteArray) {w : World}, Ok w → t.size ≤ 2000 → (∀ x, PatOk x → patE x ≠ ls t) → Calls Try.prog 10 #[.string t] w fun e w' => (∃ (a : Option Addr) (cap : Nat) (r : Int), e = .returned (.tuple #[zPat a cap, .int .i64 r]) ∧ r ≠ 0) ∧ Keeps w w'
  dmOk : ∀ {x : Pmt} (t : ByteArray) {w : World}, Ok w → PmtOk x → ls t = pmtE x → Calls Try.prog 11 #[.string t] w fun e w' => (∃ a cap, e = .returned (.tuple #[pmtV x a cap, .int .i64 0]) ∧ IsE rowSt w' a x.l.length x.l ∧ x.l.length ≤ cap ∧ cap ≤ maxLen) ∧ Keeps w w'
  dmPat : ∀ {y : Pat} (t : ByteArray) {w : World}, Ok w → PatOk y → ls t = patE y → Calls Try.prog 11 #[.string t] w fun e w' => (∃ a cap, e = .returned (.tuple #[zPmt a cap, .int .i64 14])) ∧ Keeps w w'
  dmNo : ∀ (t : ByteArray) {w : World}, Ok w → t.size ≤ 2000 → (∀ x, PmtOk x → pmtE x ≠ ls t) → Calls Try.prog 11 #[.string t] w fun e w' => (∃ (a : Option Addr) (cap : Nat) (r : Int), e = .returned (.tuple #[zPmt a cap, .int .i64 r]) ∧ r ≠ 0) ∧ Keeps w w'
  newer : ∀ (a b : Int) (w : World), (-9223372036854775808 ≤ a ∧ a ≤ 9223372036854775807) → (-9223372036854775808 ≤ b ∧ b ≤ 9223372036854775807) → Ok w → Calls Try.prog 16 #[.int .i64 a, .int .i64 b] w fun e w' => e = .returned (.bool (nwI a b)) ∧ Keeps w w'
def exPat : Pat := ⟨1, 0, [(5, 256)]⟩
theorem exPat_ok : PatOk exPat := by
  refine ⟨by decide, by decide, ?_, by decide, by decide⟩
  intro p hp
  rw [List.mem_singleton.1 hp]
  decide
theorem exPat_head : (patE exPat).take 12 = [0, 176, 13, 0, 1, 193, 0, 0, 0, 5, 225, 0] := by
  unfold patE Sct.bytes sld
  rw [List.take_append_of_le_length (by rw [Sct.open8_length]; decide)]
  decide
set_option maxHeartbeats 1600000 in
theorem awake17_any (A : PsApi) (w0 w : World) (hk : Keeps w0 w) (hO : A.Ok w) : Calls Try.prog 8 #[] w fun e w' => e = .returned (.bool true) ∧ Keeps w0 w' := by
  have HE := Lib.hid (fun a c W (k : Keeps w W) (h : IsE rowPr W a 1 exPat.l) (h1 : 1 ≤ c) (h2 : c ≤ maxLen) => A.epOk (x := exPat) h h1 h2 (A.okK hO k) exPat_ok)
  obtain ⟨S, hS⟩ : ∃ S, st (patE exPat) = S := ⟨_, rfl⟩
  have hz : S.size = 16 := by rw [← hS, st_size, patE_length]; rfl
  have h12 : S.extract 0 12 = ⟨#[0, 176, 13, 0, 1, 193, 0, 0, 0, 5, 225, 0]⟩ := by
    rw [← st_ls (S.extract 0 12), ls_part, ← hS, ls_st, List.drop_zero, exPat_head]; rfl
  simp only [hS] at HE
  unfold exPat at HE
  have HKK := Lib.hid hk
  clear hS hk
  go_enter Try.func8, Try.ntmps8
  have hrow : IsE rowPr (w.alloc (.cells #[.int .i64 5, .int .i64 256] 52)) (some ⟨w.heap.size, 0, none⟩) 1 [(5, 256)] := by
    refine ⟨rfl, fun _ => ⟨w.heap.size, 0, rfl, by simp, fun i u hu => ?_⟩⟩
    rw [World.cell?_alloc_new]
    have : rowPr.cells [(5, 256)] = [.int .i64 5, .int .i64 256] := rfl
    rw [this] at hu
    simpa using hu
  have HR := Lib.hid hrow
  clear hrow
  go_wp2_with (go_at_call 9; refine (HE.out _ 1 _ ((Keeps.refl w).alloc _) HR.out (by decide) (by decide)).mono ?_; rintro _ w2 ⟨rfl, k2⟩; have HK2 := Lib.hid ((HKK.out.alloc _).trans k2); clear k2)
  go_ret
  exact ⟨rfl, HK2.out⟩
end Go.Proofs.Ytebfihghfkcicaa
