/-
  Sections in memory, and the small functions of package section: beyond, bit, Check, Plain, same, few, Need. The memory that was there stays.
-/
import Derived.Laws.StructEq
import Derived.Test.YtebfihghfkcicaaBase
import Derived.Test.YtebfihghfkcicaaScMath
import Derived.Test.YtebfihghfkcicaaBitsOut
namespace Go.Proofs.Ytebfihghfkcicaa
open Go.RowKit Gf Sct
set_option maxRecDepth 100000
/-- A section's cells, and the struct. -/
abbrev secC (s : Sec) : List Value := [.int .i64 s.tb, .bool s.pv, .int .i64 s.ex, .int .i64 s.ver, .bool s.nw, .int .i64 s.num, .int .i64 s.la, .string s.body]
abbrev secV (s : Sec) : Value := .agg #[.int .i64 s.tb, .bool s.pv, .int .i64 s.ex, .int .i64 s.ver, .bool s.nw, .int .i64 s.num, .int .i64 s.la, .string s.body]
theorem secC_one (s : Sec) : ∀ u ∈ secC s, u.oneCell' = true := by
  intro u hu
  simp only [secC, List.mem_cons, List.not_mem_nil, or_false] at hu
  rcases hu with rfl | rfl | rfl | rfl | rfl | rfl | rfl | rfl <;> rfl
/-- Block b holds the section s, which may be written. -/
structure SecAt (b : Nat) (s : Sec) (w : World) : Prop where
  c0 : w.cell? ⟨b, 0, none⟩ = some (.int .i64 s.tb)
  c1 : w.cell? ⟨b, 1, none⟩ = some (.bool s.pv)
  c2 : w.cell? ⟨b, 2, none⟩ = some (.int .i64 s.ex)
  c3 : w.cell? ⟨b, 3, none⟩ = some (.int .i64 s.ver)
  c4 : w.cell? ⟨b, 4, none⟩ = some (.bool s.nw)
  c5 : w.cell? ⟨b, 5, none⟩ = some (.int .i64 s.num)
  c6 : w.cell? ⟨b, 6, none⟩ = some (.int .i64 s.la)
  c7 : w.cell? ⟨b, 7, none⟩ = some (.string s.body)
  fz : ∀ i, i < 8 → w.frozen? ⟨b, i, none⟩ = false
theorem SecAt.old {b : Nat} {s : Sec} {w : World} (h : SecAt b s w) : b < w.heap.size := by
  obtain ⟨o, ho, _⟩ := cells_of_cell h.c0
  exact (Array.getElem?_eq_some_iff.1 ho).1
theorem SecAt.block {b : Nat} {s : Sec} {w w' : World} (h : SecAt b s w) (hb : w'.heap[b]? = w.heap[b]?) : SecAt b s w' := by
  have kc : ∀ i, w'.cell? ⟨b, i, none⟩ = w.cell? ⟨b, i, none⟩ := fun i => World.cell?_of_block (w := w) (a := ⟨b, i, none⟩) hb
  have kf : ∀ i, w'.frozen? ⟨b, i, none⟩ = w.frozen? ⟨b, i, none⟩ := fun i => World.frozen?_of_block (w := w) (a := ⟨b, i, none⟩) hb
  exact ⟨(kc 0).trans h.c0, (kc 1).trans h.c1, (kc 2).trans h.c2, (kc 3).trans h.c3, (kc 4).trans h.c4, (kc 5).trans h.c5, (kc 6).trans h.c6, (kc 7).trans h.c7, fun i hi => (kf i).trans (h.fz i hi)⟩
theorem SecAt.eqv {b : Nat} {s : Sec} {w w' : World} (h : SecAt b s w) (k : Eqv w w') : SecAt b s w' := h.block (by rw [k.heap])
theorem SecAt.keeps {b : Nat} {s : Sec} {w w' : World} (h : SecAt b s w) (k : Keeps w w') : SecAt b s w' := h.block (Below.block k b h.old)
theorem SecAt.only {b c : Nat} {s : Sec} {w w' : World} (h : SecAt b s w) (hn : b ≠ c) (k : Only c w w') : SecAt b s w' := h.block (k.block b h.old hn)
theorem SecAt.made (w : World) (s : Sec) (t : TypeId) : SecAt w.heap.size s (w.alloc (.cells #[.int .i64 s.tb, .bool s.pv, .int .i64 s.ex, .int .i64 s.ver, .bool s.nw, .int .i64 s.num, .int .i64 s.la, .string s.body] t)) := by
  constructor
  case fz => exact fun i _ => World.frozen?_alloc_new _ _ _ _
  all_goals (rw [World.cell?_alloc_new]; rfl)
theorem SecAt.range {b : Nat} {s : Sec} {w : World} (h : SecAt b s w) : w.rangeAt b 0 (secC s) := by
  intro j v hv
  rw [Nat.zero_add]
  match j, hv with
  | 0, hv => cases hv; exact h.c0
  | 1, hv => cases hv; exact h.c1
  | 2, hv => cases hv; exact h.c2
  | 3, hv => cases hv; exact h.c3
  | 4, hv => cases hv; exact h.c4
  | 5, hv => cases hv; exact h.c5
  | 6, hv => cases hv; exact h.c6
  | 7, hv => cases hv; exact h.c7
  | _ + 8, hv => simp at hv
theorem SecAt.there {b : Nat} {s : Sec} {w : World} (h : SecAt b s w) : w.there b 0 8 := by
  intro j hj
  rw [Nat.zero_add]
  refine ⟨?_, h.fz j hj⟩
  have : j = 0 ∨ j = 1 ∨ j = 2 ∨ j = 3 ∨ j = 4 ∨ j = 5 ∨ j = 6 ∨ j = 7 := by omega
  rcases this with rfl | rfl | rfl | rfl | rfl | rfl | rfl | rfl
  · rw [h.c0]; rfl
  · rw [h.c1]; rfl
  · rw [h.c2]; rfl
  · rw [h.c3]; rfl
  · rw [h.c4]; rfl
  · rw [h.c5]; rfl
  · rw [h.c6]; rfl
  · rw [h.c7]; rfl
theorem SecAt.of {b : Nat} {s : Sec} {w : World} (h : w.rangeAt b 0 (secC s)) (f : ∀ i, i < 8 → w.frozen? ⟨b, i, none⟩ = false) : SecAt b s w := by
  have k : ∀ j v, (secC s)[j]? = some v → w.cell? ⟨b, j, none⟩ = some v := fun j v hv => by have := h j v hv; rwa [Nat.zero_add] at this
  exact ⟨k 0 _ rfl, k 1 _ rfl, k 2 _ rfl, k 3 _ rfl, k 4 _ rfl, k 5 _ rfl, k 6 _ rfl, k 7 _ rfl, f⟩
/-- The whole struct is written. -/
theorem SecAt.store {b : Nat} {s : Sec} {w : World} (h : SecAt b s w) (t : Sec) : SecAt b t (w.setCells b 0 (secC t)) :=
  SecAt.of (World.rangeAt_setCells_same w b 0 (secC t) h.there) fun i hi => by rw [World.frozen?_setCells]; exact h.fz i hi
/-- One cell is written. -/
theorem SecAt.set0 {b : Nat} {s : Sec} {w : World} (h : SecAt b s w) (x : Int) : SecAt b { s with tb := x } (w.setCell ⟨b, 0, none⟩ (.int .i64 x)) :=
  ⟨set_same h.c0, (set_other (by decide)).trans h.c1, (set_other (by decide)).trans h.c2, (set_other (by decide)).trans h.c3, (set_other (by decide)).trans h.c4, (set_other (by decide)).trans h.c5, (set_other (by decide)).trans h.c6, (set_other (by decide)).trans h.c7, fun i hi => by simp [h.fz i hi]⟩
theorem SecAt.set1 {b : Nat} {s : Sec} {w : World} (h : SecAt b s w) (x : Bool) : SecAt b { s with pv := x } (w.setCell ⟨b, 1, none⟩ (.bool x)) :=
  ⟨(set_other (by decide)).trans h.c0, set_same h.c1, (set_other (by decide)).trans h.c2, (set_other (by decide)).trans h.c3, (set_other (by decide)).trans h.c4, (set_other (by decide)).trans h.c5, (set_other (by decide)).trans h.c6, (set_other (by decide)).trans h.c7, fun i hi => by simp [h.fz i hi]⟩
theorem SecAt.set2 {b : Nat} {s : Sec} {w : World} (h : SecAt b s w) (x : Int) : SecAt b { s with ex := x } (w.setCell ⟨b, 2, none⟩ (.int .i64 x)) :=
  ⟨(set_other (by decide)).trans h.c0, (set_other (by decide)).trans h.c1, set_same h.c2, (set_other (by decide)).trans h.c3, (set_other (by decide)).trans h.c4, (set_other (by decide)).trans h.c5, (set_other (by decide)).trans h.c6, (set_other (by decide)).trans h.c7, fun i hi => by simp [h.fz i hi]⟩
theorem SecAt.set3 {b : Nat} {s : Sec} {w : World} (h : SecAt b s w) (x : Int) : SecAt b { s with ver := x } (w.setCell ⟨b, 3, none⟩ (.int .i64 x)) :=
  ⟨(set_other (by decide)).trans h.c0, (set_other (by decide)).trans h.c1, (set_other (by decide)).trans h.c2, set_same h.c3, (set_other (by decide)).trans h.c4, (set_other (by decide)).trans h.c5, (set_other (by decide)).trans h.c6, (set_other (by decide)).trans h.c7, fun i hi => by simp [h.fz i hi]⟩
theorem SecAt.set4 {b : Nat} {s : Sec} {w : World} (h : SecAt b s w) (x : Bool) : SecAt b { s with nw := x } (w.setCell ⟨b, 4, none⟩ (.bool x)) :=
  ⟨(set_other (by decide)).trans h.c0, (set_other (by decide)).trans h.c1, (set_other (by decide)).trans h.c2, (set_other (by decide)).trans h.c3, set_same h.c4, (set_other (by decide)).trans h.c5, (set_other (by decide)).trans h.c6, (set_other (by decide)).trans h.c7, fun i hi => by simp [h.fz i hi]⟩
theorem SecAt.set5 {b : Nat} {s : Sec} {w : World} (h : SecAt b s w) (x : Int) : SecAt b { s with num := x } (w.setCell ⟨b, 5, none⟩ (.int .i64 x)) :=
  ⟨(set_other (by decide)).trans h.c0, (set_other (by decide)).trans h.c1, (set_other (by decide)).trans h.c2, (set_other (by decide)).trans h.c3, (set_other (by decide)).trans h.c4, set_same h.c5, (set_other (by decide)).trans h.c6, (set_other (by decide)).trans h.c7, fun i hi => by simp [h.fz i hi]⟩
theorem SecAt.set6 {b : Nat} {s : Sec} {w : World} (h : SecAt b s w) (x : Int) : SecAt b { s with la := x } (w.setCell ⟨b, 6, none⟩ (.int .i64 x)) :=
  ⟨(set_other (by decide)).trans h.c0, (set_other (by decide)).trans h.c1, (set_other (by decide)).trans h.c2, (set_other (by decide)).trans h.c3, (set_other (by decide)).trans h.c4, (set_other (by decide)).trans h.c5, set_same h.c6, (set_other (by decide)).trans h.c7, fun i hi => by simp [h.fz i hi]⟩
theorem SecAt.set7 {b : Nat} {s : Sec} {w : World} (h : SecAt b s w) (x : ByteArray) : SecAt b { s with body := x } (w.setCell ⟨b, 7, none⟩ (.string x)) :=
  ⟨(set_other (by decide)).trans h.c0, (set_other (by decide)).trans h.c1, (set_other (by decide)).trans h.c2, (set_other (by decide)).trans h.c3, (set_other (by decide)).trans h.c4, (set_other (by decide)).trans h.c5, (set_other (by decide)).trans h.c6, set_same h.c7, fun i hi => by simp [h.fz i hi]⟩
/-- Of a range of eight cells each one is read. -/
theorem range_cells {b o : Nat} {s : Sec} {w : World} (h : w.rangeAt b o (secC s)) : w.cell? ⟨b, o, none⟩ = some (.int .i64 s.tb) ∧ w.cell? ⟨b, o + 1, none⟩ = some (.bool s.pv) ∧ w.cell? ⟨b, o + 2, none⟩ = some (.int .i64 s.ex) ∧ w.cell? ⟨b, o + 3, none⟩ = some (.int .i64 s.ver) ∧ w.cell? ⟨b, o + 4, none⟩ = some (.bool s.nw) ∧ w.cell? ⟨b, o + 5, none⟩ = some (.int .i64 s.num) ∧ w.cell? ⟨b, o + 6, none⟩ = some (.int .i64 s.la) ∧ w.cell? ⟨b, o + 7, none⟩ = some (.string s.body) :=
  ⟨h 0 _ rfl, h 1 _ rfl, h 2 _ rfl, h 3 _ rfl, h 4 _ rfl, h 5 _ rfl, h 6 _ rfl, h 7 _ rfl⟩
/-- The struct is loaded whole. -/
theorem ldS {w : World} {b o : Nat} {s : Sec} (h : w.rangeAt b o (secC s)) : (Instr.loadAt 65 (.pointer (some ⟨b, o, none⟩))).run Try.prog w = .ok (secV s) w := run_loadAt_mid (P := Try.prog) w b o _ (secC s) _ h Try.underlying65 rfl (by kernel_rfl)
/-- The struct is stored whole. -/
theorem stS {w : World} {b o : Nat} (s : Sec) (h : w.there b o 8) : (Instr.storeAt 65 (.pointer (some ⟨b, o, none⟩)) (secV s)).run Try.prog w = .ok () (w.setCells b o (secC s)) := run_storeAt_mid (P := Try.prog) w b o _ (secC s).toArray h (by kernel_rfl) (all_oneCell_toArray (secC_one s))
/-- As the walk meets them. -/
theorem wp_ldS {ops : Array Oper} {rest : List Oper} {o : Oper} {a : Act} {w : World} {Q : Exit → Act → World → Prop} {b off : Nat} {s : Sec} (h : w.rangeAt b off (secC s)) (hgd : o.guard = none) (x : Operand) (ho : o.op = .load 65 x)
    (hx : a.eval x = .pointer (some ⟨b, off, none⟩)) (k : wpList Try.prog ops Q rest (a.put o.dst (secV s)) w) : wpList Try.prog ops Q (o :: rest) a w :=
  wpList_load_mid hgd _ x ho b off hx (secC s) _ h Try.underlying65 rfl (by kernel_rfl) k
theorem wp_stS {ops : Array Oper} {rest : List Oper} {o : Oper} {a : Act} {w : World} {Q : Exit → Act → World → Prop} {b off : Nat} (s : Sec) (h : w.there b off 8) (hgd : o.guard = none) (x y : Operand) (ho : o.op = .store 65 x y)
    (hx : a.eval x = .pointer (some ⟨b, off, none⟩)) (hy : a.eval y = secV s) (k : wpList Try.prog ops Q rest (a.put o.dst undef) (w.setCells b off (secC s))) : wpList Try.prog ops Q (o :: rest) a w :=
  wpList_store_mid hgd _ x y ho b off (secC s).toArray hx hy h (by kernel_rfl) (all_oneCell_toArray (secC_one s)) k
/-- Are two sections the same? -/
def sameB (a b : Sec) : Bool := a.tb == b.tb && a.pv == b.pv && a.ex == b.ex && a.ver == b.ver && a.nw == b.nw && a.num == b.num && a.la == b.la && a.body.toList == b.body.toList
theorem sameB_iff {a b : Sec} : sameB a b = true ↔ a = b := by
  constructor
  · intro h
    unfold sameB at h
    simp only [Bool.and_eq_true, beq_iff_eq, and_assoc] at h
    obtain ⟨h1, h2, h3, h4, h5, h6, h7, h8⟩ := h
    exact sec_ext h1 h2 h3 h4 h5 h6 h7 (by rw [← ls_toList, ← ls_toList]; exact h8)
  · rintro rfl; simp [sameB]
section
variable (a b : Sec) (w : World)
theorem eqS0 : (Op.equalIn 10000 65 (secV a) (secV b)).run Try.prog w = .ok (sameB a b) w := by
  have u1 := Try.underlying3
  have u2 := Try.underlying4
  have u3 := Try.underlying9
  have a1 := Try.isAgg3
  have a2 := Try.isAgg4
  have a3 := Try.isAgg9
  have hS : Try.prog.underlying 65 = some (.struct (Try.prog.fieldsOf 65)) := by kernel_rfl
  have hp : Try.prog.stoodInHeld 65 = false := by kernel_rfl
  rw [show (10000 : Nat) = 9999 + 1 from rfl, run_equalIn_agg w 9999 _ _ _ hS hp]
  simp only [Program.fieldsOf, Try.underlying65]
  unfold sameB
  go_simp
  by_cases h1 : a.tb = b.tb <;> by_cases h2 : a.pv = b.pv <;> by_cases h3 : a.ex = b.ex <;> by_cases h4 : a.ver = b.ver <;> by_cases h5 : a.nw = b.nw <;> by_cases h6 : a.num = b.num <;> by_cases h7 : a.la = b.la <;> by_cases h8 : a.body.toList = b.body.toList <;> simp [h1, h2, h3, h4, h5, h6, h7, h8]
/-- '==' and '!=' of two sections. -/
theorem eqS : (binOp .eql 65 (secV a) (secV b)).run Try.prog w = .ok (.bool (sameB a b)) w := by rw [run_eql_struct, eqS0]; rfl
theorem neS : (binOp .neq 65 (secV a) (secV b)).run Try.prog w = .ok (.bool (!sameB a b)) w := by rw [run_neq_struct, eqS0]; rfl
theorem egS : Try.prog.eqGuardType Try.prog.depth 65 = false := by kernel_rfl
end
end Go.Proofs.Ytebfihghfkcicaa
namespace Go.Proofs.Ytebfihghfkcicaa
open Go.RowKit Gf Sct
set_option maxRecDepth 100000
theorem scbeyond_any (n last : Int) (b : Bool) (h : (decide (n < 0) || decide (last < n)) = b) (w : World) :
    Calls Try.prog 40 #[.int .i64 n, .int .i64 last] w fun e w' => e = .returned (.bool b) ∧ w = w' := by
  by_cases h1 : n < 0
  · have : b = true := by rw [← h, decide_eq_true h1]; rfl
    subst this
    clear h
    go_enter Try.func40, Try.ntmps40
    go_wp2
    go_ret
    exact ⟨rfl, rfl⟩
  · by_cases h2 : last < n
    · have : b = true := by rw [← h, decide_eq_true h2, Bool.or_true]
      subst this
      clear h
      go_enter Try.func40, Try.ntmps40
      go_wp2
      go_ret
      exact ⟨rfl, rfl⟩
    · have : b = false := by rw [← h, decide_eq_false h1, decide_eq_false h2]; rfl
      subst this
      clear h
      go_enter Try.func40, Try.ntmps40
      go_wp2
      go_ret
      exact ⟨rfl, rfl⟩
theorem scbit_any (b : Bool) (w : World) : Calls Try.prog 30 #[.bool b] w fun e w' => e = .returned (.int .i64 (bn b : Int)) ∧ w = w' := by
  cases b
  all_goals
    go_enter Try.func30, Try.ntmps30
    go_wp2
    go_ret
    exact ⟨rfl, rfl⟩
def ChkPost (w0 : World) (s : Sec) (e : Ending) (w' : World) : Prop := e = .returned (.int .i64 (chk s)) ∧ Keeps w0 w'
theorem ChkPost.of {w0 W : World} {s : Sec} {n : Int} (e : chk s = n) (k : Keeps w0 W) : ChkPost w0 s (.returned (.int .i64 n)) W := ⟨by rw [e], k⟩
set_option maxHeartbeats 1600000 in
theorem sccheck_any (w0 : World) (s : Sec) (w : World) (hk : Keeps w0 w) :
    Calls Try.prog 29 #[secV s] w (ChkPost w0 s) := by
  have hf : fit s ↔ (0 ≤ s.tb ∧ s.tb ≤ 255) ∧ (0 ≤ s.ex ∧ s.ex ≤ 65535) ∧ (0 ≤ s.ver ∧ s.ver ≤ 31) ∧ (0 ≤ s.la ∧ s.la ≤ 255) ∧ (0 ≤ s.num ∧ s.num ≤ s.la) := by
    unfold fit; constructor
    · rintro ⟨a, b, c, d, e, f, g, h, i, j⟩; exact ⟨⟨a, b⟩, ⟨c, d⟩, ⟨e, f⟩, ⟨g, h⟩, i, j⟩
    · rintro ⟨⟨a, b⟩, ⟨c, d⟩, ⟨e, f⟩, ⟨g, h⟩, i, j⟩; exact ⟨a, b, c, d, e, f, g, h, i, j⟩
  have HC := Lib.hid (fun n W => ChkPost.of (w0 := w0) (s := s) (n := n) (W := W))
  obtain ⟨b0, h0⟩ : ∃ b, (decide (s.tb < 0) || decide (255 < s.tb)) = b := ⟨_, rfl⟩
  obtain ⟨b1, h1⟩ : ∃ b, (decide (s.ex < 0) || decide (65535 < s.ex)) = b := ⟨_, rfl⟩
  obtain ⟨b2, h2⟩ : ∃ b, (decide (s.ver < 0) || decide (31 < s.ver)) = b := ⟨_, rfl⟩
  obtain ⟨b3, h3⟩ : ∃ b, (decide (s.la < 0) || decide (255 < s.la)) = b := ⟨_, rfl⟩
  obtain ⟨b4, h4⟩ : ∃ b, (decide (s.num < 0) || decide (s.la < s.num)) = b := ⟨_, rfl⟩
  have H0 := Lib.hid (scbeyond_any _ _ b0 h0)
  have H1 := Lib.hid (scbeyond_any _ _ b1 h1)
  have H2 := Lib.hid (scbeyond_any _ _ b2 h2)
  have H3 := Lib.hid (scbeyond_any _ _ b3 h3)
  have H4 := Lib.hid (scbeyond_any _ _ b4 h4)
  by_cases hall : b0 = false ∧ b1 = false ∧ b2 = false ∧ b3 = false ∧ b4 = false
  · obtain ⟨rfl, rfl, rfl, rfl, rfl⟩ := hall
    have hfit : fit s := hf.2 ⟨by simp at h0; omega, by simp at h1; omega, by simp at h2; omega, by simp at h3; omega, by simp at h4; omega⟩
    by_cases hz : 4084 < s.body.size
    · have HK := Lib.hid (chk_big hfit hz)
      obtain ⟨tb, pv, ex, ver, nw, num, la, S⟩ := s
      simp only at hz H0 H1 H2 H3 H4
      clear hf h0 h1 h2 h3 h4 hfit
      go_enter Try.func29, Try.ntmps29
      go_wp2_with (go_at_call 40; (first | with_reducible refine (H0.out _).mono ?_ | with_reducible refine (H1.out _).mono ?_ | with_reducible refine (H2.out _).mono ?_ | with_reducible refine (H3.out _).mono ?_ | with_reducible refine (H4.out _).mono ?_); rintro _ _ ⟨rfl, rfl⟩)
      go_ret
      exact HC.out _ _ HK.out (hk.alloc _)
    · have HK := Lib.hid (chk_ok hfit hz)
      obtain ⟨tb, pv, ex, ver, nw, num, la, S⟩ := s
      simp only at hz H0 H1 H2 H3 H4
      clear hf h0 h1 h2 h3 h4 hfit
      go_enter Try.func29, Try.ntmps29
      go_wp2_with (go_at_call 40; (first | with_reducible refine (H0.out _).mono ?_ | with_reducible refine (H1.out _).mono ?_ | with_reducible refine (H2.out _).mono ?_ | with_reducible refine (H3.out _).mono ?_ | with_reducible refine (H4.out _).mono ?_); rintro _ _ ⟨rfl, rfl⟩)
      go_ret
      exact HC.out _ _ HK.out (hk.alloc _)
  · have HK := Lib.hid (show chk s = 15 from chk_no fun x => hall (by
      obtain ⟨g0, g1, g2, g3, g4⟩ := hf.1 x
      refine ⟨?_, ?_, ?_, ?_, ?_⟩
      · rw [← h0]; simp; omega
      · rw [← h1]; simp; omega
      · rw [← h2]; simp; omega
      · rw [← h3]; simp; omega
      · rw [← h4]; simp; omega))
    obtain ⟨tb, pv, ex, ver, nw, num, la, S⟩ := s
    simp only at H0 H1 H2 H3 H4
    clear hf h0 h1 h2 h3 h4
    cases b0
    · cases b1
      · cases b2
        · cases b3
          · cases b4
            · exact absurd ⟨rfl, rfl, rfl, rfl, rfl⟩ hall
            · clear hall
              go_enter Try.func29, Try.ntmps29
              go_wp2_with (go_at_call 40; (first | with_reducible refine (H0.out _).mono ?_ | with_reducible refine (H1.out _).mono ?_ | with_reducible refine (H2.out _).mono ?_ | with_reducible refine (H3.out _).mono ?_ | with_reducible refine (H4.out _).mono ?_); rintro _ _ ⟨rfl, rfl⟩)
              go_ret
              exact HC.out _ _ HK.out (hk.alloc _)
          · clear hall H4
            go_enter Try.func29, Try.ntmps29
            go_wp2_with (go_at_call 40; (first | with_reducible refine (H0.out _).mono ?_ | with_reducible refine (H1.out _).mono ?_ | with_reducible refine (H2.out _).mono ?_ | with_reducible refine (H3.out _).mono ?_); rintro _ _ ⟨rfl, rfl⟩)
            go_ret
            exact HC.out _ _ HK.out (hk.alloc _)
        · clear hall H4 H3
          go_enter Try.func29, Try.ntmps29
          go_wp2_with (go_at_call 40; (first | with_reducible refine (H0.out _).mono ?_ | with_reducible refine (H1.out _).mono ?_ | with_reducible refine (H2.out _).mono ?_); rintro _ _ ⟨rfl, rfl⟩)
          go_ret
          exact HC.out _ _ HK.out (hk.alloc _)
      · clear hall H4 H3 H2
        go_enter Try.func29, Try.ntmps29
        go_wp2_with (go_at_call 40; (first | with_reducible refine (H0.out _).mono ?_ | with_reducible refine (H1.out _).mono ?_); rintro _ _ ⟨rfl, rfl⟩)
        go_ret
        exact HC.out _ _ HK.out (hk.alloc _)
    · clear hall H4 H3 H2 H1
      go_enter Try.func29, Try.ntmps29
      go_wp2_with (go_at_call 40; (with_reducible refine (H0.out _).mono ?_); rintro _ _ ⟨rfl, rfl⟩)
      go_ret
      exact HC.out _ _ HK.out (hk.alloc _)
end Go.Proofs.Ytebfihghfkcicaa
namespace Go.Proofs.Ytebfihghfkcicaa
open Go.RowKit Gf Sct Bit
set_option maxRecDepth 100000
/-- A section that is answered. -/
def SecPost (w0 : World) (s : Sec) (e : Ending) (w' : World) : Prop := e = .returned (secV s) ∧ Keeps w0 w'
/-- What is the same in all sections of a text. -/
def smv (s : Sec) : Sec := ⟨s.tb, s.pv, s.ex, s.ver, s.nw, 0, s.la, ⟨#[]⟩⟩
def scfewB (s : ByteArray) : Bool := decide (s.size ≤ 600) || (decide (4084 < s.size) && decide (s.size ≤ 5000))
/-- Get, its answer by a name. -/
theorem get_at {b : Nat} {s : ByteArray} {p : Nat} {w : World} (h : InAt b 0 s p w) (N : Nat) {q : Nat} {v : Int} (hv : un (num (((ob (ls s)).drop p).take N)) = v) (hq : p + N = q) (hN : N ≤ 64) (hs : s.size ≤ 1000000) (hp : p + N ≤ 8 * s.size) :
    Calls Try.prog 45 #[.pointer (some ⟨b, 0, none⟩), .int .i64 (N : Int)] w fun x w' => x = .returned (.int .u64 v) ∧ InAt b 0 s q w' ∧ Only b w w' := by
  have := get_ok h N hN hs hp
  rwa [hv, hq] at this
def NeedPost (w0 : World) (l : List UInt8) (e : Ending) (w' : World) : Prop := e = .returned (.tuple #[.int .i64 (need l).1, .int .i64 (need l).2]) ∧ Keeps w0 w'
theorem NeedPost.of {w0 W : World} {l : List UInt8} {n r : Int} (e : need l = (n, r)) (k : Keeps w0 W) : NeedPost w0 l (.returned (.tuple #[.int .i64 n, .int .i64 r])) W := by unfold NeedPost; rw [e]; exact ⟨rfl, k⟩
theorem cI {l : List UInt8} {i : Nat} {x : Int} (h : un (c l i) = x) : (c l i : Int) = x ∧ 0 ≤ x ∧ x ≤ 255 := by
  have := c_lt l i
  unfold un at h
  omega
set_option maxHeartbeats 3200000 in
theorem scneed_any (w0 : World) (s : ByteArray) (w : World) (hs : s.size ≤ 1000000) (hk : Keeps w0 w) :
    Calls Try.prog 35 #[.string s] w (NeedPost w0 (ls s)) := by
  have hsz := ls_size s
  by_cases h3 : s.size < 3
  · have HM := Lib.hid (need_short (l := ls s) (by omega))
    clear hsz
    go_enter Try.func35, Try.ntmps35
    go_wp2
    go_ret2
    exact NeedPost.of HM.out hk
  · have l1 := c_lt (ls s) 1
    have l2 := c_lt (ls s) 2
    have v0 := num_byte (ls s) 0 0 8 (j := 0) (by omega) (by omega) rfl
    have v1 := num_byte (ls s) 8 0 1 (j := 1) (by omega) (by omega) rfl
    have v2 := num_byte (ls s) 9 1 1 (j := 1) (by omega) (by omega) rfl
    have v3 := num_byte (ls s) 10 2 2 (j := 1) (by omega) (by omega) rfl
    have v4 : num (((ob (ls s)).drop 12).take 12) = (cf (ls s) 1).toNat % 16 * 256 + (cf (ls s) 2).toNat := num_two (ls s) 12 4 12 (j := 1) (by omega) (by omega) rfl rfl
    obtain ⟨x0, hx0⟩ : ∃ x, un (num (((ob (ls s)).drop 0).take 8)) = x := ⟨_, rfl⟩
    obtain ⟨x1, hx1⟩ : ∃ x, un (num (((ob (ls s)).drop 8).take 1)) = x := ⟨_, rfl⟩
    obtain ⟨x2, hx2⟩ : ∃ x, un (num (((ob (ls s)).drop 9).take 1)) = x := ⟨_, rfl⟩
    obtain ⟨x3, hx3⟩ : ∃ x, un (num (((ob (ls s)).drop 10).take 2)) = x := ⟨_, rfl⟩
    obtain ⟨x4, hx4⟩ : ∃ x, un (num (((ob (ls s)).drop 12).take 12)) = x := ⟨_, rfl⟩
    have e1 : x1 = ((c (ls s) 1 / 128 : Nat) : Int) := by rw [← hx1, v1]; unfold un c; unfold c at l1; omega
    have e3 : x3 = ((c (ls s) 1 / 16 % 4 : Nat) : Int) := by rw [← hx3, v3]; unfold un c; omega
    have e4 : x4 = ((len12 (ls s) : Nat) : Int) := by rw [← hx4, v4]; unfold un len12 c; omega
    have l12 : len12 (ls s) ≤ 4095 := by unfold len12; omega
    have G0 := Lib.hid (fun b W (h : InAt b 0 s 0 W) => get_at h 8 hx0 rfl (by decide) hs (by omega))
    have G1 := Lib.hid (fun b W (h : InAt b 0 s 8 W) => get_at h 1 hx1 rfl (by decide) hs (by omega))
    have G2 := Lib.hid (fun b W (h : InAt b 0 s 9 W) => get_at h 1 hx2 rfl (by decide) hs (by omega))
    have G3 := Lib.hid (fun b W (h : InAt b 0 s 10 W) => get_at h 2 hx3 rfl (by decide) hs (by omega))
    have G4 := Lib.hid (fun b W (h : InAt b 0 s 12 W) => get_at h 12 hx4 rfl (by decide) hs (by omega))
    have RD := Lib.hid (read_any s w)
    obtain ⟨rb, hrb⟩ : ∃ rb, w.heap.size = rb := ⟨_, rfl⟩
    rw [hrb] at RD
    have HRB := Lib.hid (show w0.heap.size ≤ rb by rw [← hrb]; exact Below.size hk)
    have hx4b : 0 ≤ x4 ∧ x4 ≤ 4095 := by omega
    have HF := Lib.hid (show ¬ (x1 = 1 ∧ x3 = 3 ∧ 12 ≤ 3 + x4 ∧ 3 + x4 ≤ 4096) → need (ls s) = (0, 12) from fun h => need_form (by omega) (by
      rintro ⟨k1, k2, k3⟩
      refine h ⟨?_, ?_, ?_, ?_⟩
      · rw [e1]; omega
      · rw [e3]; omega
      · omega
      · omega))
    have HY := Lib.hid (show (x1 = 1 ∧ x3 = 3 ∧ 12 ≤ 3 + x4 ∧ 3 + x4 ≤ 4096) → need (ls s) = (3 + x4, 0) from fun h => by
      obtain ⟨k1, k2, k3, k4⟩ := h
      rw [need_ok (by omega) ⟨by omega, by omega, by omega⟩, e4]
      congr 1; omega)
    have HK := Lib.hid hk
    clear hx0 hx1 hx2 hx3 hx4 v0 v1 v2 v3 v4 e1 e3 e4 l12 l1 l2 hsz hk hrb
    by_cases q1 : x1 = 1
    · by_cases q3 : x3 = 3
      · by_cases q4 : 3 + x4 < 12
        · replace HF := Lib.hid (HF.out (by omega))
          clear HY
          go_enter Try.func35, Try.ntmps35
          go_wp2_with (first | (go_at_call 44; refine RD.out.mono ?_; rintro _ w1 ⟨rfl, i1, k1⟩; have HK1 := Lib.hid (HK.out.trans k1); have I1 := Lib.hid i1; clear i1 k1 HK RD) | (go_at_call 45; refine (G0.out _ _ I1.out).mono ?_; rintro _ w2 ⟨rfl, i2, k2⟩; have HK2 := Lib.hid (k2.keeps HK1.out HRB.out); have I2 := Lib.hid i2; clear i2 k2 HK1 I1) | (go_at_call 45; refine (G1.out _ _ I2.out).mono ?_; rintro _ w3 ⟨rfl, i3, k3⟩; have HK3 := Lib.hid (k3.keeps HK2.out HRB.out); have I3 := Lib.hid i3; clear i3 k3 HK2 I2) | (go_at_call 45; refine (G2.out _ _ I3.out).mono ?_; rintro _ w4 ⟨rfl, i4, k4⟩; have HK4 := Lib.hid (k4.keeps HK3.out HRB.out); have I4 := Lib.hid i4; clear i4 k4 HK3 I3) | (go_at_call 45; refine (G3.out _ _ I4.out).mono ?_; rintro _ w5 ⟨rfl, i5, k5⟩; have HK5 := Lib.hid (k5.keeps HK4.out HRB.out); have I5 := Lib.hid i5; clear i5 k5 HK4 I4) | (go_at_call 45; refine (G4.out _ _ I5.out).mono ?_; rintro _ w6 ⟨rfl, i6, k6⟩; have HK6 := Lib.hid (k6.keeps HK5.out HRB.out); clear i6 k6 HK5 I5))
          go_ret2
          exact NeedPost.of HF.out HK6.out
        · by_cases q5 : 4096 < 3 + x4
          · replace HF := Lib.hid (HF.out (by omega))
            clear HY
            go_enter Try.func35, Try.ntmps35
            go_wp2_with (first | (go_at_call 44; refine RD.out.mono ?_; rintro _ w1 ⟨rfl, i1, k1⟩; have HK1 := Lib.hid (HK.out.trans k1); have I1 := Lib.hid i1; clear i1 k1 HK RD) | (go_at_call 45; refine (G0.out _ _ I1.out).mono ?_; rintro _ w2 ⟨rfl, i2, k2⟩; have HK2 := Lib.hid (k2.keeps HK1.out HRB.out); have I2 := Lib.hid i2; clear i2 k2 HK1 I1) | (go_at_call 45; refine (G1.out _ _ I2.out).mono ?_; rintro _ w3 ⟨rfl, i3, k3⟩; have HK3 := Lib.hid (k3.keeps HK2.out HRB.out); have I3 := Lib.hid i3; clear i3 k3 HK2 I2) | (go_at_call 45; refine (G2.out _ _ I3.out).mono ?_; rintro _ w4 ⟨rfl, i4, k4⟩; have HK4 := Lib.hid (k4.keeps HK3.out HRB.out); have I4 := Lib.hid i4; clear i4 k4 HK3 I3) | (go_at_call 45; refine (G3.out _ _ I4.out).mono ?_; rintro _ w5 ⟨rfl, i5, k5⟩; have HK5 := Lib.hid (k5.keeps HK4.out HRB.out); have I5 := Lib.hid i5; clear i5 k5 HK4 I4) | (go_at_call 45; refine (G4.out _ _ I5.out).mono ?_; rintro _ w6 ⟨rfl, i6, k6⟩; have HK6 := Lib.hid (k6.keeps HK5.out HRB.out); clear i6 k6 HK5 I5))
            go_ret2
            exact NeedPost.of HF.out HK6.out
          · replace HY := Lib.hid (HY.out ⟨q1, q3, by omega, by omega⟩)
            clear HF
            go_enter Try.func35, Try.ntmps35
            go_wp2_with (first | (go_at_call 44; refine RD.out.mono ?_; rintro _ w1 ⟨rfl, i1, k1⟩; have HK1 := Lib.hid (HK.out.trans k1); have I1 := Lib.hid i1; clear i1 k1 HK RD) | (go_at_call 45; refine (G0.out _ _ I1.out).mono ?_; rintro _ w2 ⟨rfl, i2, k2⟩; have HK2 := Lib.hid (k2.keeps HK1.out HRB.out); have I2 := Lib.hid i2; clear i2 k2 HK1 I1) | (go_at_call 45; refine (G1.out _ _ I2.out).mono ?_; rintro _ w3 ⟨rfl, i3, k3⟩; have HK3 := Lib.hid (k3.keeps HK2.out HRB.out); have I3 := Lib.hid i3; clear i3 k3 HK2 I2) | (go_at_call 45; refine (G2.out _ _ I3.out).mono ?_; rintro _ w4 ⟨rfl, i4, k4⟩; have HK4 := Lib.hid (k4.keeps HK3.out HRB.out); have I4 := Lib.hid i4; clear i4 k4 HK3 I3) | (go_at_call 45; refine (G3.out _ _ I4.out).mono ?_; rintro _ w5 ⟨rfl, i5, k5⟩; have HK5 := Lib.hid (k5.keeps HK4.out HRB.out); have I5 := Lib.hid i5; clear i5 k5 HK4 I4) | (go_at_call 45; refine (G4.out _ _ I5.out).mono ?_; rintro _ w6 ⟨rfl, i6, k6⟩; have HK6 := Lib.hid (k6.keeps HK5.out HRB.out); clear i6 k6 HK5 I5))
            go_ret2
            exact NeedPost.of HY.out HK6.out
      · replace HF := Lib.hid (HF.out fun h => q3 h.2.1)
        clear HY
        go_enter Try.func35, Try.ntmps35
        go_wp2_with (first | (go_at_call 44; refine RD.out.mono ?_; rintro _ w1 ⟨rfl, i1, k1⟩; have HK1 := Lib.hid (HK.out.trans k1); have I1 := Lib.hid i1; clear i1 k1 HK RD) | (go_at_call 45; refine (G0.out _ _ I1.out).mono ?_; rintro _ w2 ⟨rfl, i2, k2⟩; have HK2 := Lib.hid (k2.keeps HK1.out HRB.out); have I2 := Lib.hid i2; clear i2 k2 HK1 I1) | (go_at_call 45; refine (G1.out _ _ I2.out).mono ?_; rintro _ w3 ⟨rfl, i3, k3⟩; have HK3 := Lib.hid (k3.keeps HK2.out HRB.out); have I3 := Lib.hid i3; clear i3 k3 HK2 I2) | (go_at_call 45; refine (G2.out _ _ I3.out).mono ?_; rintro _ w4 ⟨rfl, i4, k4⟩; have HK4 := Lib.hid (k4.keeps HK3.out HRB.out); have I4 := Lib.hid i4; clear i4 k4 HK3 I3) | (go_at_call 45; refine (G3.out _ _ I4.out).mono ?_; rintro _ w5 ⟨rfl, i5, k5⟩; have HK5 := Lib.hid (k5.keeps HK4.out HRB.out); have I5 := Lib.hid i5; clear i5 k5 HK4 I4) | (go_at_call 45; refine (G4.out _ _ I5.out).mono ?_; rintro _ w6 ⟨rfl, i6, k6⟩; have HK6 := Lib.hid (k6.keeps HK5.out HRB.out); clear i6 k6 HK5 I5))
        go_ret2
        exact NeedPost.of HF.out HK6.out
    · replace HF := Lib.hid (HF.out fun h => q1 h.1)
      clear HY
      go_enter Try.func35, Try.ntmps35
      go_wp2_with (first | (go_at_call 44; refine RD.out.mono ?_; rintro _ w1 ⟨rfl, i1, k1⟩; have HK1 := Lib.hid (HK.out.trans k1); have I1 := Lib.hid i1; clear i1 k1 HK RD) | (go_at_call 45; refine (G0.out _ _ I1.out).mono ?_; rintro _ w2 ⟨rfl, i2, k2⟩; have HK2 := Lib.hid (k2.keeps HK1.out HRB.out); have I2 := Lib.hid i2; clear i2 k2 HK1 I1) | (go_at_call 45; refine (G1.out _ _ I2.out).mono ?_; rintro _ w3 ⟨rfl, i3, k3⟩; have HK3 := Lib.hid (k3.keeps HK2.out HRB.out); have I3 := Lib.hid i3; clear i3 k3 HK2 I2) | (go_at_call 45; refine (G2.out _ _ I3.out).mono ?_; rintro _ w4 ⟨rfl, i4, k4⟩; have HK4 := Lib.hid (k4.keeps HK3.out HRB.out); have I4 := Lib.hid i4; clear i4 k4 HK3 I3) | (go_at_call 45; refine (G3.out _ _ I4.out).mono ?_; rintro _ w5 ⟨rfl, i5, k5⟩; have HK5 := Lib.hid (k5.keeps HK4.out HRB.out); have I5 := Lib.hid i5; clear i5 k5 HK4 I4) | (go_at_call 45; refine (G4.out _ _ I5.out).mono ?_; rintro _ w6 ⟨rfl, i6, k6⟩; have HK6 := Lib.hid (k6.keeps HK5.out HRB.out); clear i6 k6 HK5 I5))
      go_ret2
      exact NeedPost.of HF.out HK6.out
end Go.Proofs.Ytebfihghfkcicaa
