/-
  Columns' parts in memory: how one is loaded, stored, compared; Plain, Is. The memory that was there stays.
-/
import Derived.Test.YtdpgphidielajaaCell
import Derived.Test.YtdpgphidielajaaFeMath
import Derived.Test.YtdpgphidielajaaTmV
import Derived.Test.YtdpgphidielajaaScE
namespace Go.Proofs.Ytdpgphidielajaa
open Go.RowKit Gf Tm Sct Mpe Fec
set_option maxRecDepth 100000
abbrev feC (p : Fpt) : List Value := [.int .i64 p.pad, .int .i64 p.num, .int .i64 p.la, .int .i64 p.tm.dt, .bool p.tm.tb, .bool p.tm.fr, .int .i64 p.tm.ad, .string p.txt]
abbrev feV (p : Fpt) : Value := .agg #[.int .i64 p.pad, .int .i64 p.num, .int .i64 p.la, .int .i64 p.tm.dt, .bool p.tm.tb, .bool p.tm.fr, .int .i64 p.tm.ad, .string p.txt]
theorem feC_one (s : Fpt) : ∀ u ∈ feC s, u.oneCell' = true := by
  intro u hu
  simp only [feC, List.mem_cons, List.not_mem_nil, or_false] at hu
  rcases hu with rfl | rfl | rfl | rfl | rfl | rfl | rfl | rfl <;> rfl
theorem feC_mid {b : Nat} {p : Fpt} {w : World} (h : CsAt b (feC p) w) : w.rangeAt b 3 (tmC p.tm) := h.mid [_, _, _] (tmC p.tm) [_] rfl rfl
theorem feC_put {b : Nat} {p : Fpt} {w : World} (h : CsAt b (feC p) w) (x : Tms) : CsAt b (feC (wtF p x)) (w.setCells b 3 (tmC x)) := h.put [_, _, _] (tmC p.tm) (tmC x) [_] rfl rfl rfl
/-- The struct is loaded whole. -/
theorem lvF {w : World} {b : Nat} {s : Fpt} (h : w.rangeAt b 0 (feC s)) : (loadVar 25 ⟨b, 0, none⟩).run Try.prog w = .ok (feV s) w := run_loadVar_mid (P := Try.prog) w b 0 _ (feC s) _ h Try.underlying25 rfl (by kernel_rfl)
theorem ldF {w : World} {b o : Nat} {s : Fpt} (h : w.rangeAt b o (feC s)) : (Instr.loadAt 25 (.pointer (some ⟨b, o, none⟩))).run Try.prog w = .ok (feV s) w := run_loadAt_mid (P := Try.prog) w b o _ (feC s) _ h Try.underlying25 rfl (by kernel_rfl)
theorem wp_ldF {ops : Array Oper} {rest : List Oper} {o : Oper} {a : Act} {w : World} {Q : Exit → Act → World → Prop} {b off : Nat} {s : Fpt} (h : w.rangeAt b off (feC s)) (hgd : o.guard = none) (x : Operand) (ho : o.op = .load 25 x)
    (hx : a.eval x = .pointer (some ⟨b, off, none⟩)) (k : wpList Try.prog ops Q rest (a.put o.dst (feV s)) w) : wpList Try.prog ops Q (o :: rest) a w :=
  wpList_load_mid hgd _ x ho b off hx (feC s) _ h Try.underlying25 rfl (by kernel_rfl) k
theorem wp_stF {ops : Array Oper} {rest : List Oper} {o : Oper} {a : Act} {w : World} {Q : Exit → Act → World → Prop} {b off : Nat} (s : Fpt) (h : w.there b off 8) (hgd : o.guard = none) (x y : Operand) (ho : o.op = .store 25 x y)
    (hx : a.eval x = .pointer (some ⟨b, off, none⟩)) (hy : a.eval y = feV s) (k : wpList Try.prog ops Q rest (a.put o.dst undef) (w.setCells b off (feC s))) : wpList Try.prog ops Q (o :: rest) a w :=
  wpList_store_mid hgd _ x y ho b off (feC s).toArray hx hy h (by kernel_rfl) (all_oneCell_toArray (feC_one s)) k
theorem lvG {w : World} {b : Nat} {s : Fpt} (h : w.rangeAt b 0 (feC s)) : (loadVar 29 ⟨b, 0, none⟩).run Try.prog w = .ok (feV s) w := run_loadVar_mid (P := Try.prog) w b 0 _ (feC s) _ h Try.underlying29 rfl (by kernel_rfl)
theorem ldG {w : World} {b o : Nat} {s : Fpt} (h : w.rangeAt b o (feC s)) : (Instr.loadAt 29 (.pointer (some ⟨b, o, none⟩))).run Try.prog w = .ok (feV s) w := run_loadAt_mid (P := Try.prog) w b o _ (feC s) _ h Try.underlying29 rfl (by kernel_rfl)
theorem wp_ldG {ops : Array Oper} {rest : List Oper} {o : Oper} {a : Act} {w : World} {Q : Exit → Act → World → Prop} {b off : Nat} {s : Fpt} (h : w.rangeAt b off (feC s)) (hgd : o.guard = none) (x : Operand) (ho : o.op = .load 29 x)
    (hx : a.eval x = .pointer (some ⟨b, off, none⟩)) (k : wpList Try.prog ops Q rest (a.put o.dst (feV s)) w) : wpList Try.prog ops Q (o :: rest) a w :=
  wpList_load_mid hgd _ x ho b off hx (feC s) _ h Try.underlying29 rfl (by kernel_rfl) k
theorem wp_stG {ops : Array Oper} {rest : List Oper} {o : Oper} {a : Act} {w : World} {Q : Exit → Act → World → Prop} {b off : Nat} (s : Fpt) (h : w.there b off 8) (hgd : o.guard = none) (x y : Operand) (ho : o.op = .store 29 x y)
    (hx : a.eval x = .pointer (some ⟨b, off, none⟩)) (hy : a.eval y = feV s) (k : wpList Try.prog ops Q rest (a.put o.dst undef) (w.setCells b off (feC s))) : wpList Try.prog ops Q (o :: rest) a w :=
  wpList_store_mid hgd _ x y ho b off (feC s).toArray hx hy h (by kernel_rfl) (all_oneCell_toArray (feC_one s)) k
/-- Are two parts the same? -/
def sameF (a b : Fpt) : Bool := a.pad == b.pad && a.num == b.num && a.la == b.la && (a.tm.dt == b.tm.dt && a.tm.tb == b.tm.tb && a.tm.fr == b.tm.fr && a.tm.ad == b.tm.ad) && a.txt.toList == b.txt.toList
theorem sameF_iff {a b : Fpt} : sameF a b = true ↔ a = b := by
  constructor
  · intro h
    unfold sameF at h
    simp only [Bool.and_eq_true, beq_iff_eq, and_assoc] at h
    obtain ⟨h1, g1, g2, h2, h3, h4, h5, h6⟩ := h
    exact fpt_ext h1 g1 g2 (tms_ext h2 h3 h4 h5) (by rw [← ls_toList, ← ls_toList]; exact h6)
  · rintro rfl
    unfold sameF
    simp
theorem sameF_self (a : Fpt) : sameF a a = true := sameF_iff.2 rfl
theorem sameF_no {a b : Fpt} (h : a ≠ b) : sameF a b = false := by
  cases e : sameF a b with
  | false => rfl
  | true => exact absurd (sameF_iff.1 e) h
section
variable (a b : Fpt) (w : World)
theorem eqFd (d : Nat) : (Op.equalIn (d + 1 + 1 + 1) 25 (feV a) (feV b)).run Try.prog w = .ok (sameF a b) w := by
  have u1 := Try.underlying3
  have u2 := Try.underlying4
  have u3 := Try.underlying9
  have a1 := Try.isAgg3
  have a2 := Try.isAgg4
  have a3 := Try.isAgg9
  have a4 := Try.isAgg23
  have hS : Try.prog.underlying 25 = some (.struct (Try.prog.fieldsOf 25)) := by kernel_rfl
  have hp : Try.prog.stoodInHeld 25 = false := by kernel_rfl
  have c1 : Try.prog.cellsOf 23 = 4 := by kernel_rfl
  rw [run_equalIn_agg w (d + 1 + 1) _ _ _ hS hp]
  simp only [Program.fieldsOf, Try.underlying25]
  unfold sameF
  go_simp
  by_cases h1 : a.pad = b.pad <;> by_cases g1 : a.num = b.num <;> by_cases g2 : a.la = b.la <;> by_cases h2 : a.tm.dt = b.tm.dt <;> by_cases h3 : a.tm.tb = b.tm.tb <;> by_cases h4 : a.tm.fr = b.tm.fr <;> by_cases h5 : a.tm.ad = b.tm.ad <;> by_cases h6 : a.txt.toList = b.txt.toList <;> simp [h1, g1, g2, h2, h3, h4, h5, h6]
theorem eqF : (binOp .eql 25 (feV a) (feV b)).run Try.prog w = .ok (.bool (sameF a b)) w := by rw [run_eql_struct, show (10000 : Nat) = 9997 + 1 + 1 + 1 from rfl, eqFd]; rfl
theorem neF : (binOp .neq 25 (feV a) (feV b)).run Try.prog w = .ok (.bool (!sameF a b)) w := by rw [run_neq_struct, show (10000 : Nat) = 9997 + 1 + 1 + 1 from rfl, eqFd]; rfl
theorem egF : Try.prog.eqGuardType Try.prog.depth 25 = false := by kernel_rfl
theorem eqGd (d : Nat) : (Op.equalIn (d + 1 + 1 + 1) 29 (feV a) (feV b)).run Try.prog w = .ok (sameF a b) w := by
  have u1 := Try.underlying3
  have u2 := Try.underlying4
  have u3 := Try.underlying9
  have a1 := Try.isAgg3
  have a2 := Try.isAgg4
  have a3 := Try.isAgg9
  have a4 := Try.isAgg23
  have hS : Try.prog.underlying 29 = some (.struct (Try.prog.fieldsOf 29)) := by kernel_rfl
  have hp : Try.prog.stoodInHeld 29 = false := by kernel_rfl
  have c1 : Try.prog.cellsOf 23 = 4 := by kernel_rfl
  rw [run_equalIn_agg w (d + 1 + 1) _ _ _ hS hp]
  simp only [Program.fieldsOf, Try.underlying29]
  unfold sameF
  go_simp
  by_cases h1 : a.pad = b.pad <;> by_cases g1 : a.num = b.num <;> by_cases g2 : a.la = b.la <;> by_cases h2 : a.tm.dt = b.tm.dt <;> by_cases h3 : a.tm.tb = b.tm.tb <;> by_cases h4 : a.tm.fr = b.tm.fr <;> by_cases h5 : a.tm.ad = b.tm.ad <;> by_cases h6 : a.txt.toList = b.txt.toList <;> simp [h1, g1, g2, h2, h3, h4, h5, h6]
theorem eqG : (binOp .eql 29 (feV a) (feV b)).run Try.prog w = .ok (.bool (sameF a b)) w := by rw [run_eql_struct, show (10000 : Nat) = 9997 + 1 + 1 + 1 from rfl, eqGd]; rfl
theorem neG : (binOp .neq 29 (feV a) (feV b)).run Try.prog w = .ok (.bool (!sameF a b)) w := by rw [run_neq_struct, show (10000 : Nat) = 9997 + 1 + 1 + 1 from rfl, eqGd]; rfl
theorem egG : Try.prog.eqGuardType Try.prog.depth 29 = false := by kernel_rfl
end
theorem feplain_any (p : Fpt) (w : World) : Calls Try.prog 10 #[feV p] w fun e w' => e = .returned (feV p) ∧ Keeps w w' := by
  obtain ⟨b, hb⟩ : ∃ b, w.heap.size = b := ⟨_, rfl⟩
  obtain ⟨pad, num, la, ⟨dt, tb, fr, ad⟩, txt⟩ := p
  go_enter Try.func10, Try.ntmps10
  go_wp2
  have E := CsAt.made (w.alloc (.cells #[.int .i64 pad, .int .i64 num, .int .i64 la, .int .i64 dt, .bool tb, .bool fr, .int .i64 ad, .string txt] 25)) #[.int .i64 pad, .int .i64 num, .int .i64 la, .int .i64 dt, .bool tb, .bool fr, .int .i64 ad, .string txt] 29 (by simp)
  refine cs_ret Try.results10 (lvG (s := ⟨pad, num, la, ⟨dt, tb, fr, ad⟩, txt⟩) E.r) ?_ rfl ⟨rfl, ((Keeps.refl w).alloc _).alloc _⟩
  rw [World.size_alloc, hb]; rfl
/-- Does a text begin as a section of these? -/
def isF (l : List UInt8) : Bool := decide (0 < l.length) && decide (cf l 0 = 120)
theorem feis_any (s : ByteArray) (w : World) : Calls Try.prog 14 #[.string s] w fun e w' => e = .returned (.bool (isF (ls s))) ∧ w = w' := by
  by_cases h : s.size = 0
  · have hn : ls s = [] := List.length_eq_zero_iff.1 (by rw [← ls_size]; exact h)
    have ht : s.toList = [] := by rw [← ls_toList] at hn; exact hn
    have hr : isF (ls s) = false := by rw [hn]; rfl
    rw [hr]
    clear h hn hr
    go_enter Try.func14, Try.ntmps14
    go_wp2
    go_ret
    exact ⟨rfl, rfl⟩
  · have h0 : 0 < s.size := by omega
    have ht : (s.toList == []) = false := by
      rw [beq_eq_false_iff_ne, ls_toList]
      intro e
      have := ls_size s
      rw [e] at this
      exact h this
    have g := ls_get s 0 h0
    obtain ⟨x, hx⟩ : ∃ x, cf (ls s) 0 = x := ⟨_, rfl⟩
    rw [hx] at g
    have hr : isF (ls s) = ((x.toNat : Int) == 120) := by
      unfold isF
      rw [decide_eq_true (show 0 < (ls s).length by rw [← ls_size]; exact h0), hx, Bool.true_and]
      by_cases e : x = 120
      · subst e; rfl
      · rw [decide_eq_false e]; symm; rw [beq_eq_false_iff_ne]; intro k; exact e (UInt8.toNat_inj.1 (by rw [show ((120 : UInt8).toNat) = 120 from rfl]; omega))
    rw [hr]
    clear hx hr
    have h0' : (0 : Int) < (s.size : Int) := by omega
    go_enter Try.func14, Try.ntmps14
    go_wp2
    go_ret
    exact ⟨rfl, rfl⟩
end Go.Proofs.Ytdpgphidielajaa
