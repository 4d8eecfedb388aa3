/-
  Parts in memory: how one is loaded, stored, compared; Plain, carrier, Is. The memory that was there stays.
-/
import Derived.Test.YtbkodlinfmflkaaCell
import Derived.Test.YtbkodlinfmflkaaMpMath
import Derived.Test.YtbkodlinfmflkaaTmV
import Derived.Test.YtbkodlinfmflkaaScE
import Derived.Test.YtbkodlinfmflkaaDgA
namespace Go.Proofs.Ytbkodlinfmflkaa
open Go.RowKit Gf Tm Sct Mpe
set_option maxRecDepth 100000
abbrev prC (p : Prt) : List Value := [.int .i64 p.mac, .int .i64 p.tm.dt, .bool p.tm.tb, .bool p.tm.fr, .int .i64 p.tm.ad, .string p.txt]
abbrev prV (p : Prt) : Value := .agg #[.int .i64 p.mac, .int .i64 p.tm.dt, .bool p.tm.tb, .bool p.tm.fr, .int .i64 p.tm.ad, .string p.txt]
theorem prC_one (s : Prt) : ∀ u ∈ prC s, u.oneCell' = true := by
  intro u hu
  simp only [prC, List.mem_cons, List.not_mem_nil, or_false] at hu
  rcases hu with rfl | rfl | rfl | rfl | rfl | rfl <;> rfl
theorem prC_mid {b : Nat} {p : Prt} {w : World} (h : CsAt b (prC p) w) : w.rangeAt b 1 (tmC p.tm) := h.mid [_] (tmC p.tm) [_] rfl rfl
theorem prC_put {b : Nat} {p : Prt} {w : World} (h : CsAt b (prC p) w) (x : Tms) : CsAt b (prC (wt p x)) (w.setCells b 1 (tmC x)) := h.put [_] (tmC p.tm) (tmC x) [_] rfl rfl rfl
/-- The struct is loaded whole. -/
theorem lvP {w : World} {b : Nat} {s : Prt} (h : w.rangeAt b 0 (prC s)) : (loadVar 25 ⟨b, 0, none⟩).run Try.prog w = .ok (prV s) w := run_loadVar_mid (P := Try.prog) w b 0 _ (prC s) _ h Try.underlying25 rfl (by kernel_rfl)
theorem ldP {w : World} {b o : Nat} {s : Prt} (h : w.rangeAt b o (prC s)) : (Instr.loadAt 25 (.pointer (some ⟨b, o, none⟩))).run Try.prog w = .ok (prV s) w := run_loadAt_mid (P := Try.prog) w b o _ (prC s) _ h Try.underlying25 rfl (by kernel_rfl)
theorem wp_ldP {ops : Array Oper} {rest : List Oper} {o : Oper} {a : Act} {w : World} {Q : Exit → Act → World → Prop} {b off : Nat} {s : Prt} (h : w.rangeAt b off (prC s)) (hgd : o.guard = none) (x : Operand) (ho : o.op = .load 25 x)
    (hx : a.eval x = .pointer (some ⟨b, off, none⟩)) (k : wpList Try.prog ops Q rest (a.put o.dst (prV s)) w) : wpList Try.prog ops Q (o :: rest) a w :=
  wpList_load_mid hgd _ x ho b off hx (prC s) _ h Try.underlying25 rfl (by kernel_rfl) k
theorem wp_stP {ops : Array Oper} {rest : List Oper} {o : Oper} {a : Act} {w : World} {Q : Exit → Act → World → Prop} {b off : Nat} (s : Prt) (h : w.there b off 6) (hgd : o.guard = none) (x y : Operand) (ho : o.op = .store 25 x y)
    (hx : a.eval x = .pointer (some ⟨b, off, none⟩)) (hy : a.eval y = prV s) (k : wpList Try.prog ops Q rest (a.put o.dst undef) (w.setCells b off (prC s))) : wpList Try.prog ops Q (o :: rest) a w :=
  wpList_store_mid hgd _ x y ho b off (prC s).toArray hx hy h (by kernel_rfl) (all_oneCell_toArray (prC_one s)) k
theorem lvQ {w : World} {b : Nat} {s : Prt} (h : w.rangeAt b 0 (prC s)) : (loadVar 29 ⟨b, 0, none⟩).run Try.prog w = .ok (prV s) w := run_loadVar_mid (P := Try.prog) w b 0 _ (prC s) _ h Try.underlying29 rfl (by kernel_rfl)
theorem ldQ {w : World} {b o : Nat} {s : Prt} (h : w.rangeAt b o (prC s)) : (Instr.loadAt 29 (.pointer (some ⟨b, o, none⟩))).run Try.prog w = .ok (prV s) w := run_loadAt_mid (P := Try.prog) w b o _ (prC s) _ h Try.underlying29 rfl (by kernel_rfl)
theorem wp_ldQ {ops : Array Oper} {rest : List Oper} {o : Oper} {a : Act} {w : World} {Q : Exit → Act → World → Prop} {b off : Nat} {s : Prt} (h : w.rangeAt b off (prC s)) (hgd : o.guard = none) (x : Operand) (ho : o.op = .load 29 x)
    (hx : a.eval x = .pointer (some ⟨b, off, none⟩)) (k : wpList Try.prog ops Q rest (a.put o.dst (prV s)) w) : wpList Try.prog ops Q (o :: rest) a w :=
  wpList_load_mid hgd _ x ho b off hx (prC s) _ h Try.underlying29 rfl (by kernel_rfl) k
theorem wp_stQ {ops : Array Oper} {rest : List Oper} {o : Oper} {a : Act} {w : World} {Q : Exit → Act → World → Prop} {b off : Nat} (s : Prt) (h : w.there b off 6) (hgd : o.guard = none) (x y : Operand) (ho : o.op = .store 29 x y)
    (hx : a.eval x = .pointer (some ⟨b, off, none⟩)) (hy : a.eval y = prV s) (k : wpList Try.prog ops Q rest (a.put o.dst undef) (w.setCells b off (prC s))) : wpList Try.prog ops Q (o :: rest) a w :=
  wpList_store_mid hgd _ x y ho b off (prC s).toArray hx hy h (by kernel_rfl) (all_oneCell_toArray (prC_one s)) k
/-- Are two parts the same? -/
def sameP (a b : Prt) : Bool := a.mac == b.mac && (a.tm.dt == b.tm.dt && a.tm.tb == b.tm.tb && a.tm.fr == b.tm.fr && a.tm.ad == b.tm.ad) && a.txt.toList == b.txt.toList
theorem sameP_iff {a b : Prt} : sameP a b = true ↔ a = b := by
  constructor
  · intro h
    unfold sameP at h
    simp only [Bool.and_eq_true, beq_iff_eq, and_assoc] at h
    obtain ⟨h1, h2, h3, h4, h5, h6⟩ := h
    exact prt_ext h1 (tms_ext h2 h3 h4 h5) (by rw [← ls_toList, ← ls_toList]; exact h6)
  · rintro rfl
    unfold sameP
    simp
theorem sameP_self (a : Prt) : sameP a a = true := sameP_iff.2 rfl
theorem sameP_no {a b : Prt} (h : a ≠ b) : sameP a b = false := by
  cases e : sameP a b with
  | false => rfl
  | true => exact absurd (sameP_iff.1 e) h
section
variable (a b : Prt) (w : World)
theorem eqPd (d : Nat) : (Op.equalIn (d + 1 + 1 + 1) 25 (prV a) (prV b)).run Try.prog w = .ok (sameP a b) w := by
  have u1 := Try.underlying3
  have u2 := Try.underlying4
  have u3 := Try.underlying9
  have a1 := Try.isAgg3
  have a2 := Try.isAgg4
  have a3 := Try.isAgg9
  have a4 := Try.isAgg23
  have hS : Try.prog.underlying 25 = some (.struct (Try.prog.fieldsOf 25)) := by kernel_rfl
  have hp : Try.prog.stoodInHeld 25 = false := by kernel_rfl
  have c1 : Try.prog.cellsOf 23 = 4 := by kernel_rfl
  rw [run_equalIn_agg w (d + 1 + 1) _ _ _ hS hp]
  simp only [Program.fieldsOf, Try.underlying25]
  unfold sameP
  go_simp
  by_cases h1 : a.mac = b.mac <;> by_cases h2 : a.tm.dt = b.tm.dt <;> by_cases h3 : a.tm.tb = b.tm.tb <;> by_cases h4 : a.tm.fr = b.tm.fr <;> by_cases h5 : a.tm.ad = b.tm.ad <;> by_cases h6 : a.txt.toList = b.txt.toList <;> simp [h1, h2, h3, h4, h5, h6]
theorem eqP : (binOp .eql 25 (prV a) (prV b)).run Try.prog w = .ok (.bool (sameP a b)) w := by rw [run_eql_struct, show (10000 : Nat) = 9997 + 1 + 1 + 1 from rfl, eqPd]; rfl
theorem neP : (binOp .neq 25 (prV a) (prV b)).run Try.prog w = .ok (.bool (!sameP a b)) w := by rw [run_neq_struct, show (10000 : Nat) = 9997 + 1 + 1 + 1 from rfl, eqPd]; rfl
theorem egP : Try.prog.eqGuardType Try.prog.depth 25 = false := by kernel_rfl
theorem eqQd (d : Nat) : (Op.equalIn (d + 1 + 1 + 1) 29 (prV a) (prV b)).run Try.prog w = .ok (sameP a b) w := by
  have u1 := Try.underlying3
  have u2 := Try.underlying4
  have u3 := Try.underlying9
  have a1 := Try.isAgg3
  have a2 := Try.isAgg4
  have a3 := Try.isAgg9
  have a4 := Try.isAgg23
  have hS : Try.prog.underlying 29 = some (.struct (Try.prog.fieldsOf 29)) := by kernel_rfl
  have hp : Try.prog.stoodInHeld 29 = false := by kernel_rfl
  have c1 : Try.prog.cellsOf 23 = 4 := by kernel_rfl
  rw [run_equalIn_agg w (d + 1 + 1) _ _ _ hS hp]
  simp only [Program.fieldsOf, Try.underlying29]
  unfold sameP
  go_simp
  by_cases h1 : a.mac = b.mac <;> by_cases h2 : a.tm.dt = b.tm.dt <;> by_cases h3 : a.tm.tb = b.tm.tb <;> by_cases h4 : a.tm.fr = b.tm.fr <;> by_cases h5 : a.tm.ad = b.tm.ad <;> by_cases h6 : a.txt.toList = b.txt.toList <;> simp [h1, h2, h3, h4, h5, h6]
theorem eqQ : (binOp .eql 29 (prV a) (prV b)).run Try.prog w = .ok (.bool (sameP a b)) w := by rw [run_eql_struct, show (10000 : Nat) = 9997 + 1 + 1 + 1 from rfl, eqQd]; rfl
theorem neQ : (binOp .neq 29 (prV a) (prV b)).run Try.prog w = .ok (.bool (!sameP a b)) w := by rw [run_neq_struct, show (10000 : Nat) = 9997 + 1 + 1 + 1 from rfl, eqQd]; rfl
theorem egQ : Try.prog.eqGuardType Try.prog.depth 29 = false := by kernel_rfl
end
/-- A section that carries a body. -/
def carr (x : Int) (B : ByteArray) : Sec := ⟨62, false, x, 0, true, 0, 0, B⟩
theorem mpcarrier_any (x : Int) (B : ByteArray) (w : World) : Calls Try.prog 26 #[.int .i64 x, .string B] w fun e w' => e = .returned (secV (carr x B)) ∧ Keeps w w' := by
  obtain ⟨b, hb⟩ : ∃ b, w.heap.size = b := ⟨_, rfl⟩
  obtain ⟨wA, hA⟩ : ∃ wA, w.alloc (.cells #[.int .i64 0, .bool false, .int .i64 0, .int .i64 0, .bool false, .int .i64 0, .int .i64 0, .string ⟨#[]⟩] 58) = wA := ⟨_, rfl⟩
  have A0 := Lib.hid (Ans.start (Keeps.refl w) hb hA)
  go_enter Try.func26, Try.ntmps26
  go_wp2_with (refine wp_stS (b := b) (off := 0) (carr x B) A0.out.z.there rfl _ _ rfl rfl rfl ?_)
  have E := A0.out.ends (carr x B)
  exact cs_ret Try.results26 (lvS E.1) rfl rfl ⟨rfl, E.2⟩
theorem mpplain_any (p : Prt) (w : World) : Calls Try.prog 12 #[prV p] w fun e w' => e = .returned (prV p) ∧ Keeps w w' := by
  obtain ⟨b, hb⟩ : ∃ b, w.heap.size = b := ⟨_, rfl⟩
  obtain ⟨mac, ⟨dt, tb, fr, ad⟩, txt⟩ := p
  go_enter Try.func12, Try.ntmps12
  go_wp2
  have E := CsAt.made (w.alloc (.cells #[.int .i64 mac, .int .i64 dt, .bool tb, .bool fr, .int .i64 ad, .string txt] 25)) #[.int .i64 mac, .int .i64 dt, .bool tb, .bool fr, .int .i64 ad, .string txt] 29 (by simp)
  refine cs_ret Try.results12 (lvQ (s := ⟨mac, ⟨dt, tb, fr, ad⟩, txt⟩) E.r) ?_ rfl ⟨rfl, ((Keeps.refl w).alloc _).alloc _⟩
  rw [World.size_alloc, hb]; rfl
/-- Does a text begin as a section of these? -/
def isM (l : List UInt8) : Bool := decide (0 < l.length) && decide (cf l 0 = 62)
theorem mpis_any (s : ByteArray) (w : World) : Calls Try.prog 16 #[.string s] w fun e w' => e = .returned (.bool (isM (ls s))) ∧ w = w' := by
  by_cases h : s.size = 0
  · have hn : ls s = [] := List.length_eq_zero_iff.1 (by rw [← ls_size]; exact h)
    have ht : s.toList = [] := by rw [← ls_toList] at hn; exact hn
    have hr : isM (ls s) = false := by rw [hn]; rfl
    rw [hr]
    clear h hn hr
    go_enter Try.func16, Try.ntmps16
    go_wp2
    go_ret
    exact ⟨rfl, rfl⟩
  · have h0 : 0 < s.size := by omega
    have ht : (s.toList == []) = false := by
      rw [beq_eq_false_iff_ne, ls_toList]
      intro e
      have := ls_size s
      rw [e] at this
      exact h this
    have g := ls_get s 0 h0
    obtain ⟨x, hx⟩ : ∃ x, cf (ls s) 0 = x := ⟨_, rfl⟩
    rw [hx] at g
    have hr : isM (ls s) = ((x.toNat : Int) == 62) := by
      unfold isM
      rw [decide_eq_true (show 0 < (ls s).length by rw [← ls_size]; exact h0), hx, Bool.true_and]
      by_cases e : x = 62
      · subst e; rfl
      · rw [decide_eq_false e]; symm; rw [beq_eq_false_iff_ne]; intro k; exact e (UInt8.toNat_inj.1 (by rw [show ((62 : UInt8).toNat) = 62 from rfl]; omega))
    rw [hr]
    clear hx hr
    have h0' : (0 : Int) < (s.size : Int) := by omega
    go_enter Try.func16, Try.ntmps16
    go_wp2
    go_ret
    exact ⟨rfl, rfl⟩
end Go.Proofs.Ytbkodlinfmflkaa
