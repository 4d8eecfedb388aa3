/-
  What number, Get and Text of package bits answer: for texts of up to a million bytes. Nothing that was there turns but the reader.
-/
import Derived.Test.YtofnokikjfmfgaaBitsA
namespace Go.Proofs.Ytofnokikjfmfgaa
open Go.RowKit Go.Shelf Gf Bit
set_option maxRecDepth 100000
attribute [local go_sem] Oper.semAt_some
theorem next_in (n : Nat) (b : Nat) (N : Int) (w : World) :
    CallsIn Fence.wide n Try.prog 68 #[.pointer (some ⟨b, 0, none⟩), .int .i64 N] w fun e w' => e = .returned (.func (.func 74) #[] #[.pointer (some ⟨w.heap.size + 1, 0, none⟩), .pointer (some ⟨w.heap.size, 0, none⟩)]) ∧ w' = (w.alloc (.cells #[.pointer (some ⟨b, 0, none⟩)] 88)).alloc (.cells #[.int .i64 N] 3) := by
  refine callsIn_of_wp Try.func68 rfl trivial ?_ rfl
  simp only [Try.ntmps68, List.size_toArray, List.length_cons, List.length_nil, Nat.reduceAdd, Nat.reduceSub, Array.replicate_succ, Array.replicate_zero, List.push_toArray, List.append_toArray, List.nil_append, List.cons_append]
  gi_wp2
  go_ret
  exact ⟨rfl, rfl⟩
theorem num_more {l : List Bool} {p k : Nat} (h : p + k < l.length) : num ((l.drop p).take (k + 1)) = 2 * num ((l.drop p).take k) + (bt l (p + k)).toNat := by
  rw [List.take_succ_eq_append_getElem (by rw [List.length_drop]; omega), num_snoc, List.getElem_drop, bt_lt h]
theorem num_take_lt (l : List Bool) (p : Nat) {k : Nat} (h : k ≤ 63) : num ((l.drop p).take k) < 2 ^ 63 :=
  Nat.lt_of_lt_of_le (num_lt _) (Nat.pow_le_pow_right (by decide) (by rw [List.length_take]; omega))
/-- One more bit behind a number. -/
theorem un_more {q : Nat} (h : q < 2 ^ 63) (b : Bool) : bits BinOp.or IntKind.u64 (un q * 2) (bI b) = un (2 * q + b.toNat) := by
  unfold un bI
  rw [show (q : Int) * 2 = ((2 * q : Nat) : Int) by omega, u64_or_nat _ _ (by omega) (by cases b <;> decide)]
  congr 1
  have : b.toNat < 2 ^ 1 := by cases b <;> decide
  have e := Nat.two_pow_add_eq_or_of_lt this q
  rw [Nat.pow_one] at e
  exact e.symm
theorem Only.far {b l : Nat} {w W W' : World} (h : Only b w W) (k : Only l W W') (hl : w.heap.size ≤ l) : Only b w W' :=
  ⟨k.os.trans h.os, k.tape.trans h.tape, k.output.trans h.output, Nat.le_trans h.size k.size, fun i hi hn => (k.block i (Nat.lt_of_lt_of_le hi h.size) (by omega)).trans (h.block i hi hn)⟩
theorem KeepsOthers.eqv {W W' : World} (h : Eqv W W') : KeepsOthers W W' := ⟨by rw [h.heap]; exact Nat.le_refl _, fun k o hk _ => by rw [h.heap]; exact hk⟩
theorem cell_block {W W' : World} {a : Addr} {v : Value} (h : W.cell? a = some v) (hb : W'.heap[a.block]? = W.heap[a.block]?) : W'.cell? a = some v := (World.cell?_of_block (w := W) hb).trans h
theorem there_cell {W : World} {a : Addr} {v : Value} (h : W.cell? a = some v) : a.block < W.heap.size := by
  obtain ⟨o, ho, _⟩ := cells_of_cell h
  exact (Array.getElem?_eq_some_iff.1 ho).1
/-- While a number is read: its box is block X, the reader's the next one. -/
structure NumJ (w : World) (b : Nat) (e : Int) (s : ByteArray) (X q : Nat) (v : Nat) (W : World) : Prop where
  rd : InAt b e s q W
  cx : W.cell? ⟨X, 0, none⟩ = some (.int .u64 (un v))
  fx : W.frozen? ⟨X, 0, none⟩ = false
  ci : W.cell? ⟨X + 1, 0, none⟩ = some (.pointer (some ⟨b, 0, none⟩))
  on : Only b w W
theorem NumJ.far {w : World} {b : Nat} {e : Int} {s : ByteArray} {X q v l : Nat} {W W' : World} (h : NumJ w b e s X q v W) (k : Only l W W') (hl : w.heap.size ≤ l) (h1 : b ≠ l) (h2 : X ≠ l) (h3 : X + 1 ≠ l) : NumJ w b e s X q v W' :=
  ⟨h.rd.only h1 k, (k.cell (p := ⟨X, 0, none⟩) (there_cell h.cx) h2).trans h.cx, (k.frozen (p := ⟨X, 0, none⟩) (there_cell h.cx) h2).trans h.fx, (k.cell (p := ⟨X + 1, 0, none⟩) (there_cell h.ci) h3).trans h.ci, h.on.far k hl⟩
theorem NumJ.eqv {w : World} {b : Nat} {e : Int} {s : ByteArray} {X q v : Nat} {W W' : World} (h : NumJ w b e s X q v W) (k : Eqv W W') : NumJ w b e s X q v W' :=
  ⟨h.rd.eqv k, (k.cell _).trans h.cx, (k.frozen _).trans h.fx, (k.cell _).trans h.ci, h.on.trans (Only.eqv k)⟩
theorem NumJ.tick {w : World} {b : Nat} {e : Int} {s : ByteArray} {X q v : Nat} {W : World} (h : NumJ w b e s X q v W) (q' : Nat) (h1 : b ≠ X) (h2 : b ≠ X + 1) : NumJ w b e s X q' v (W.setCell ⟨b, 2, none⟩ (.int .i64 (q' : Int))) :=
  have k := Only.setCell W ⟨b, 2, none⟩ (.int .i64 (q' : Int))
  ⟨h.rd.setK q', (k.cell (p := ⟨X, 0, none⟩) (there_cell h.cx) h1.symm).trans h.cx, (k.frozen (p := ⟨X, 0, none⟩) (there_cell h.cx) h1.symm).trans h.fx, (k.cell (p := ⟨X + 1, 0, none⟩) (there_cell h.ci) h2.symm).trans h.ci, h.on.trans k⟩
theorem NumJ.set {w : World} {b : Nat} {e : Int} {s : ByteArray} {X q v : Nat} {W : World} (h : NumJ w b e s X q v W) (v' : Nat) (h1 : b ≠ X) (hX : w.heap.size ≤ X) : NumJ w b e s X q v' (W.setCell ⟨X, 0, none⟩ (.int .u64 (un v'))) :=
  have k := Only.setCell W ⟨X, 0, none⟩ (.int .u64 (un v'))
  ⟨h.rd.only h1 k, World.cell?_setCell_same _ _ _ h.cx, by simp [h.fx], (k.cell (p := ⟨X + 1, 0, none⟩) (there_cell h.ci) (by show X + 1 ≠ X; omega)).trans h.ci, h.on.far k hX⟩
theorem un_wrap2 {q : Nat} (h : q < 2 ^ 63) : IntKind.u64.wrap (un q * 2) = un q * 2 := by unfold un; rw [IntKind.wrap_u64]; omega
set_option maxHeartbeats 4000000 in
theorem number_in {b : Nat} {e : Int} {s : ByteArray} {p : Nat} {w : World} (h : InAt b e s p w) (N : Nat) (hs : s.size ≤ 1000000) (hN : p + N ≤ 8 * s.size) (hN6 : N ≤ 64) :
    CallsIn Fence.wide 5 Try.prog 60 #[.pointer (some ⟨b, 0, none⟩), .int .i64 (N : Int)] w fun x w' => x = .returned (.int .u64 (un (num (((ob (ls s)).drop p).take N)))) ∧ InAt b e s (p + N) w' ∧ Only b w w' := by
  refine callsIn_of_wp_marks Try.func60 rfl trivial ?_ rfl
  simp only [Try.ntmps60, List.size_toArray, List.length_cons, List.length_nil, Nat.reduceAdd, Nat.reduceSub, Array.replicate_succ, Array.replicate_zero, List.push_toArray, List.append_toArray, List.nil_append, List.cons_append]
  gi_wp2
  refine ⟨trivial, (next_in _ _ _ _).mono ?_⟩
  rintro x w' ⟨rfl, rfl⟩
  gi_wp2
  have hbo := h.old
  have c0 := cell_new1 w (.int .u64 0) 84
  have c1 := cell_new1 (w.alloc (.cells #[.int .u64 0] 84)) (.pointer (some ⟨b, 0, none⟩)) 88
  have c2 := cell_new1 ((w.alloc (.cells #[.int .u64 0] 84)).alloc (.cells #[.pointer (some ⟨b, 0, none⟩)] 88)) (.int .i64 (N : Int)) 3
  simp only [World.size_alloc] at c1 c2
  have k3 : Keeps w (((w.alloc (.cells #[.int .u64 0] 84)).alloc (.cells #[.pointer (some ⟨b, 0, none⟩)] 88)).alloc (.cells #[.int .i64 (N : Int)] 3)) := (((Keeps.refl w).alloc _).alloc _).alloc _
  have j0 : NumJ w b e s w.heap.size p (num (((ob (ls s)).drop p).take 0)) (((w.alloc (.cells #[.int .u64 0] 84)).alloc (.cells #[.pointer (some ⟨b, 0, none⟩)] 88)).alloc (.cells #[.int .i64 (N : Int)] 3)) :=
    ⟨h.keeps k3, cell_alloc1 _ (cell_alloc1 _ c0.1), frozen_alloc1 _ (cell_alloc1 _ c0.1) (frozen_alloc1 _ c0.1 c0.2), cell_alloc1 _ c1.1, Only.below k3⟩
  have d2 := c2.1
  have sz : (((w.alloc (.cells #[.int .u64 0] 84)).alloc (.cells #[.pointer (some ⟨b, 0, none⟩)] 88)).alloc (.cells #[.int .i64 (N : Int)] 3)).heap.size = w.heap.size + 3 := by simp
  obtain ⟨w3, hw3⟩ : ∃ w3, ((w.alloc (.cells #[.int .u64 0] 84)).alloc (.cells #[.pointer (some ⟨b, 0, none⟩)] 88)).alloc (.cells #[.int .i64 (N : Int)] 3) = w3 := ⟨_, rfl⟩
  rw [hw3] at j0 d2 sz
  rw [hw3]
  clear hw3 k3 c0 c1 c2 h
  obtain ⟨X, hX⟩ : ∃ X, w.heap.size = X := ⟨_, rfl⟩
  rw [hX] at j0 d2 sz hbo
  rw [hX]
  refine wpIn_range (gf := 74) rfl (enters_of Try.func74 (by kernel_rfl) rfl) (NumJ w b e s X (p + N) (num (((ob (ls s)).drop p).take N))) ?hit ?done
  case hit =>
    intro fn r hr hL
    rw [sz] at hL ⊢
    have far : ∀ {q v : Nat} {A A' : World}, NumJ w b e s X q v A → Only (X + 3 + 1) A A' → NumJ w b e s X q v A' := fun h k => h.far k (by omega) (by omega) (by omega) (by omega)
    have hW1 : Keeps w3 ((w3.alloc (.deferred (some []))).alloc (.loop r)) := ((Keeps.refl w3).alloc _).alloc _
    refine (next1_in (5 - 1) (by omega) (X + 3 + 1) b (X + 1 + 1) (X + 1) e s p N hs hN (fun k W => Lp (X + 3) (X + 3 + 1) r W ∧ NumJ w b e s X (p + k) (num (((ob (ls s)).drop p).take k)) W) (fun k W hJ => ⟨hJ.2.ci, hJ.2.rd⟩) ?hY _ ?_ ?_).mono fun x W' hh => ⟨hh.1, hh.2.1, hh.2.2⟩
    case hY =>
      rintro k W W2 hk ⟨hl, hj⟩ he
      have hj2 := (hj.tick (p + k + 1) (by omega) (by omega)).eqv he
      have hl2 := hl.others ((KeepsOthers.setCell W ⟨b, 2, none⟩ (.int .i64 ((p + k + 1 : Nat) : Int))).trans (KeepsOthers.eqv he))
      have HN := Lib.hid (num_more (l := ob (ls s)) (p := p) (k := k) (by rw [ob_length, ← ls_size]; omega))
      have HU := Lib.hid (un_more (num_take_lt (ob (ls s)) p (k := k) (by omega)) (bt (ob (ls s)) (p + k)))
      have HQ := Lib.hid (num_take_lt (ob (ls s)) p (k := k) (by omega))
      generalize num (((ob (ls s)).drop p).take k) = q at *
      generalize num (((ob (ls s)).drop p).take (k + 1)) = q' at *
      rw [← HN.out] at HU
      have hb1 := bI_bd (bt (ob (ls s)) (p + k))
      generalize bI (bt (ob (ls s)) (p + k)) = v at *
      refine YieldAt.mono (yield_round hl2 (by omega) (by rw [hr]) (by rw [hr]) (by rw [hr]; rfl) (a₁ := ?a1) (NumJ w b e s X (p + k + 1) q') ?_ ?_) ?_
      case a1 => exact { tmps := #[.pointer (some ⟨b, 0, none⟩), .int .i64 (N : Int), undef, undef, .int .u64 0, .pointer (some ⟨X, 0, none⟩), .int .u8 v, .pointer (some ⟨b, 0, none⟩), .int .i64 (N : Int), .func (.func 74) #[] #[.pointer (some ⟨X + 1 + 1, 0, none⟩), .pointer (some ⟨X + 1, 0, none⟩)], .int .u8 v, undef, undef, undef, undef, undef, undef], defers := [] }
      · intro K hK
        rw [hr]
        gi_wp2
        exact hK
      · have hj4 := far hj2 (put_only W2 (.loop { r with state := .busy }))
        generalize W2.putObj (X + 3 + 1) (.loop { r with state := .busy }) = W4 at *
        obtain ⟨r1, cx, fx, ci, on⟩ := hj4
        rw [hr]
        gi_wp2
        rw [un_wrap2 HQ.out, HU.out]
        exact ⟨KeepsOthers.setCell _ _ _, (NumJ.mk r1 cx fx ci on).set q' (by omega) (by omega)⟩
      · rintro x W'' ⟨rfl, h1, W', h2, rfl, h3⟩
        exact ⟨rfl, h1, far h2 (put_only _ _)⟩
    · exact (hW1.trans (Below.refl _ _)).cell (p := ⟨X + 1 + 1, 0, none⟩) (there_cell d2) |>.trans d2
    · exact ⟨hL, j0.far (Only.below hW1 (b := X + 3 + 1)) (by omega) (by omega) (by omega) (by omega)⟩
  case done =>
    intro W o hE hd
    have hE2 := hE.far (put_only (l := w3.heap.size + 1) W o) (by omega) (by omega) (by omega) (by omega)
    generalize W.putObj (w3.heap.size + 1) o = W5 at *
    clear hE
    obtain ⟨r1, cx, fx, ci, on⟩ := hE2
    gi_wp2
    have k := put_only (l := w3.heap.size) W5 (.deferred none)
    refine ⟨by simp, .inl ⟨_, _, rfl, run_takeDeferred hd, ?_⟩⟩
    refine ⟨_, ?_, rfl, r1.only (by omega) k, on.far k (by omega)⟩
    simp [results, Try.f60, go_sem]
theorem number_any {b : Nat} {e : Int} {s : ByteArray} {p : Nat} {w : World} (h : InAt b e s p w) (N : Nat) (hs : s.size ≤ 1000000) (hN : p + N ≤ 8 * s.size) (hN6 : N ≤ 64) :
    Calls Try.prog 60 #[.pointer (some ⟨b, 0, none⟩), .int .i64 (N : Int)] w fun x w' => x = .returned (.int .u64 (un (num (((ob (ls s)).drop p).take N)))) ∧ InAt b e s (p + N) w' ∧ Only b w w' :=
  (callsIn_wide (n := 5)).1 (number_in h N hs hN hN6)
end Go.Proofs.Ytofnokikjfmfgaa
