/-
  The document's table in memory, and what its calls answer. The memory that was there stays, but for the table's own.
-/
import Derived.Test.YtpkidopnkofccaaFoot
import Derived.Test.YtpkidopnkofccaaTbBase
import Derived.Test.YtpkidopnkofccaaDgA
import Derived.Test.YtpkidopnkofccaaDgE
namespace Go.Proofs.Ytpkidopnkofccaa
open Go.RowKit Gf
set_option maxRecDepth 100000
/-- Block b begins with n values, told by their places; they may be written. -/
structure BlF (b n : Nat) (v : Nat → Value) (w : World) : Prop where
  old : b < w.heap.size
  cell : ∀ i, i < n → w.cell? ⟨b, i, none⟩ = some (v i)
  free : ∀ i, i < n → w.frozen? ⟨b, i, none⟩ = false
section
variable {b n : Nat} {v : Nat → Value} {w w' : World}
theorem BlF.block (h : BlF b n v w) (e : w'.heap[b]? = w.heap[b]?) (hs : w.heap.size ≤ w'.heap.size) : BlF b n v w' :=
  ⟨Nat.lt_of_lt_of_le h.old hs, fun i hi => (World.cell?_of_block (w := w) (a := ⟨b, i, none⟩) e).trans (h.cell i hi), fun i hi => (World.frozen?_of_block (w := w) (a := ⟨b, i, none⟩) e).trans (h.free i hi)⟩
theorem BlF.congr {u : Nat → Value} (h : BlF b n v w) (e : ∀ i, i < n → u i = v i) : BlF b n u w := ⟨h.old, fun i hi => by rw [e i hi]; exact h.cell i hi, h.free⟩
theorem BlF.set (h : BlF b n v w) {k : Nat} (hk : k < n) (y : Value) : BlF b n (fun i => if i = k then y else v i) (w.setCell ⟨b, k, none⟩ y) := by
  refine ⟨by simpa [World.setCell] using h.old, fun i hi => ?_, fun i hi => ?_⟩
  · show _ = some (if i = k then y else v i)
    by_cases e : i = k
    · subst e; rw [if_pos rfl]; exact World.cell?_setCell_same _ _ _ (h.cell i hi)
    · rw [if_neg e, World.cell?_setCell_other _ _ _ _ (by intro x; exact e (congrArg Addr.off x).symm)]; exact h.cell i hi
  · simp [h.free i hi]
theorem BlF.made (w : World) (y : Value) (n : Nat) (t : TypeId) : BlF w.heap.size n (fun _ => y) (w.alloc (.cells (madeCells #[y] n) t)) := by
  refine ⟨by simp, fun i hi => ?_, fun i _ => World.frozen?_alloc_new _ _ _ _⟩
  rw [World.cell?_alloc_new]
  have h1 : (madeCells #[y] n).toList[i]? = (List.replicate n y)[i]? := by rw [toList_madeCells_one]
  rw [Array.getElem?_toList] at h1
  rw [h1, List.getElem?_replicate, if_pos hi]
end
abbrev u8V (x : UInt8) : Value := .int .u8 (x.toNat : Int)
/-- A row at a block's beginning. -/
abbrev sl0 (b n : Nat) : Value := .slice (some ⟨b, 0, none⟩) n n
abbrev rtC (R bb bi bs : Nat) : List Value := [.int .i64 (R : Int), sl0 bb (255 * R), sl0 bi (255 * R), sl0 bs (191 * R)]
/-- The document's table: block x, its rows bb, bi and bs, all of them in S. -/
structure RtIn (S : Nat → Prop) (x bb bi bs : Nat) (T : Tb) (W : World) : Prop where
  ok : T.Ok
  c : CsAt x (rtC T.R bb bi bs) W
  b : BlF bb (255 * T.R) (fun n => u8V (T.B n)) W
  i : BlF bi (255 * T.R) (fun n => .bool (T.Is n)) W
  s : BlF bs (191 * T.R) (fun n => .bool (T.St n)) W
  m : S x ∧ S bb ∧ S bi ∧ S bs
  d : (x ≠ bb ∧ x ≠ bi ∧ x ≠ bs) ∧ (bb ≠ bi ∧ bb ≠ bs) ∧ bi ≠ bs
  o : ∀ k, S k → k < W.heap.size
def RtAt (S : Nat → Prop) (x : Nat) (T : Tb) (W : World) : Prop := ∃ bb bi bs, RtIn S x bb bi bs T W
section
variable {S U : Nat → Prop} {x bb bi bs : Nat} {T : Tb} {W W' : World}
theorem RtIn.at (h : RtIn S x bb bi bs T W) (k : ∀ b, S b → W'.heap[b]? = W.heap[b]?) (hs : W.heap.size ≤ W'.heap.size) : RtIn S x bb bi bs T W' :=
  ⟨h.ok, h.c.block (k x h.m.1), h.b.block (k _ h.m.2.1) hs, h.i.block (k _ h.m.2.2.1) hs, h.s.block (k _ h.m.2.2.2) hs, h.m, h.d, fun b hb => Nat.lt_of_lt_of_le (h.o b hb) hs⟩
theorem RtIn.foot (h : RtIn S x bb bi bs T W) (k : Foot U W W') (hd : ∀ b, S b → ¬ U b) : RtIn S x bb bi bs T W' := h.at (fun b hb => k.block b (h.o b hb) (hd b hb)) k.size
theorem RtIn.keeps (h : RtIn S x bb bi bs T W) (k : Keeps W W') : RtIn S x bb bi bs T W' := h.at (fun b hb => Below.block k b (h.o b hb)) (Below.size k)
theorem RtIn.eqv (h : RtIn S x bb bi bs T W) (k : Eqv W W') : RtIn S x bb bi bs T W' := h.at (fun b _ => by rw [k.heap]) (by rw [k.size]; exact Nat.le_refl _)
theorem RtAt.foot (h : RtAt S x T W) (k : Foot U W W') (hd : ∀ b, S b → ¬ U b) : RtAt S x T W' := by obtain ⟨bb, bi, bs, h⟩ := h; exact ⟨bb, bi, bs, h.foot k hd⟩
theorem RtAt.keeps (h : RtAt S x T W) (k : Keeps W W') : RtAt S x T W' := by obtain ⟨bb, bi, bs, h⟩ := h; exact ⟨bb, bi, bs, h.keeps k⟩
theorem RtAt.ok (h : RtAt S x T W) : T.Ok := by obtain ⟨_, _, _, h⟩ := h; exact h.ok
theorem RtAt.old (h : RtAt S x T W) : ∀ k, S k → k < W.heap.size := by obtain ⟨_, _, _, h⟩ := h; exact h.o
/-- A byte is written, and known; a place is known; a place is a beginning. -/
theorem RtIn.setBI (h : RtIn S x bb bi bs T W) {k : Nat} (hk : k < 255 * T.R) (y : UInt8) : RtIn S x bb bi bs { T with B := fun n => if n = k then y else T.B n, Is := fun n => decide (n = k) || T.Is n } ((W.setCell ⟨bb, k, none⟩ (u8V y)).setCell ⟨bi, k, none⟩ (.bool true)) := by
  have ho := Only.setCell W ⟨bb, k, none⟩ (u8V y)
  have ho2 := Only.setCell (W.setCell ⟨bb, k, none⟩ (u8V y)) ⟨bi, k, none⟩ (.bool true)
  have hib : bi ≠ bb := Ne.symm h.d.2.1.1
  have hsb : bs ≠ bb := Ne.symm h.d.2.1.2
  have hsi : bs ≠ bi := Ne.symm h.d.2.2
  refine ⟨⟨h.ok.r, fun n hn => ?_, fun n hn => ?_, h.ok.s⟩, (h.c.only h.d.1.1 ho).only h.d.1.2.1 ho2, ?_, ?_, ?_, h.m, h.d, fun b hb => Nat.lt_of_lt_of_le (h.o b hb) (Nat.le_trans ho.size ho2.size)⟩
  · have hn' : (decide (n = k) || T.Is n) = false := hn
    rw [Bool.or_eq_false_iff] at hn'
    show (if n = k then y else T.B n) = 0
    rw [if_neg (of_decide_eq_false hn'.1)]
    exact h.ok.z n hn'.2
  · have hn' : 255 * T.R ≤ n := hn
    show (decide (n = k) || T.Is n) = false
    rw [decide_eq_false (by omega), Bool.false_or]
    exact h.ok.i n hn'
  · refine ((h.b.set hk (u8V y)).block (ho2.block bb (Nat.lt_of_lt_of_le h.b.old ho.size) h.d.2.1.1) ho2.size).congr fun i _ => ?_
    show u8V (if i = k then y else T.B i) = _
    split <;> rfl
  · refine ((h.i.block (ho.block bi h.i.old hib) ho.size).set hk (.bool true)).congr fun i _ => ?_
    show Value.bool (decide (i = k) || T.Is i) = _
    by_cases e : i = k
    · rw [if_pos e, decide_eq_true e, Bool.true_or]
    · rw [if_neg e, decide_eq_false e, Bool.false_or]
  · exact (h.s.block (ho.block bs h.s.old hsb) ho.size).block (ho2.block bs (Nat.lt_of_lt_of_le h.s.old ho.size) hsi) ho2.size
theorem RtIn.setI (h : RtIn S x bb bi bs T W) {k : Nat} (hk : k < 255 * T.R) : RtIn S x bb bi bs { T with Is := fun n => decide (n = k) || T.Is n } (W.setCell ⟨bi, k, none⟩ (.bool true)) := by
  have ho := Only.setCell W ⟨bi, k, none⟩ (.bool true)
  refine ⟨⟨h.ok.r, fun n hn => ?_, fun n hn => ?_, h.ok.s⟩, h.c.only h.d.1.2.1 ho, h.b.block (ho.block bb h.b.old h.d.2.1.1) ho.size, ?_, h.s.block (ho.block bs h.s.old (Ne.symm h.d.2.2)) ho.size, h.m, h.d, fun b hb => Nat.lt_of_lt_of_le (h.o b hb) ho.size⟩
  · have hn' : (decide (n = k) || T.Is n) = false := hn
    rw [Bool.or_eq_false_iff] at hn'
    exact h.ok.z n hn'.2
  · have hn' : 255 * T.R ≤ n := hn
    show (decide (n = k) || T.Is n) = false
    rw [decide_eq_false (by omega), Bool.false_or]
    exact h.ok.i n hn'
  · refine (h.i.set hk (.bool true)).congr fun i _ => ?_
    show Value.bool (decide (i = k) || T.Is i) = _
    by_cases e : i = k
    · rw [if_pos e, decide_eq_true e, Bool.true_or]
    · rw [if_neg e, decide_eq_false e, Bool.false_or]
theorem RtIn.setS (h : RtIn S x bb bi bs T W) {k : Nat} (hk : k < 191 * T.R) : RtIn S x bb bi bs { T with St := fun n => decide (n = k) || T.St n } (W.setCell ⟨bs, k, none⟩ (.bool true)) := by
  have ho := Only.setCell W ⟨bs, k, none⟩ (.bool true)
  refine ⟨⟨h.ok.r, h.ok.z, h.ok.i, fun n hn => ?_⟩, h.c.only h.d.1.2.2 ho, h.b.block (ho.block bb h.b.old h.d.2.1.2) ho.size, h.i.block (ho.block bi h.i.old h.d.2.2) ho.size, ?_, h.m, h.d, fun b hb => Nat.lt_of_lt_of_le (h.o b hb) ho.size⟩
  · have hn' : 191 * T.R ≤ n := hn
    show (decide (n = k) || T.St n) = false
    rw [decide_eq_false (by omega), Bool.false_or]
    exact h.ok.s n hn'
  · refine (h.s.set hk (.bool true)).congr fun i _ => ?_
    show Value.bool (decide (i = k) || T.St i) = _
    by_cases e : i = k
    · rw [if_pos e, decide_eq_true e, Bool.true_or]
    · rw [if_neg e, decide_eq_false e, Bool.false_or]
end
/-- How many of a row's first places are not known. -/
def lostN (T : Tb) (row k : Nat) : Nat := (List.range k).countP fun c => !T.Is (c * T.R + row)
theorem lostN_succ (T : Tb) (row k : Nat) : lostN T row (k + 1) = lostN T row k + (if T.Is (k * T.R + row) = true then 0 else 1) := by
  unfold lostN
  rw [List.range_succ, List.countP_append, List.countP_singleton]
  cases T.Is (k * T.R + row) <;> rfl
theorem lostN_le (T : Tb) (row k : Nat) : lostN T row k ≤ k := by
  have := List.countP_le_length (p := fun c => !T.Is (c * T.R + row)) (l := List.range k)
  rw [List.length_range] at this
  exact this
def tloRel (w : World) (T : Tb) (row : Nat) (n c : Value) (wr : World) : Prop := ∃ k : Nat, k ≤ 255 ∧ c = .int .i64 (k : Int) ∧ n = .int .i64 (lostN T row k : Int) ∧ Eqv w wr
set_option maxHeartbeats 3200000 in
theorem rtlost_any {S : Nat → Prop} {x : Nat} {T : Tb} {w : World} (h : RtAt S x T w) {row : Nat} (hrow : row < T.R) : Calls Try.prog 14 #[.pointer (some ⟨x, 0, none⟩), .int .i64 (row : Int)] w fun e w' => e = .returned (.int .i64 (lostT T row : Int)) ∧ Eqv w w' := by
  obtain ⟨bb, bi, bs, h⟩ := h
  obtain ⟨hr1, hr2⟩ := h.ok.bd
  have HC := Lib.hid h.c
  have HI := Lib.hid h.i
  have HE := Lib.hid (show lostN T row 255 = lostT T row from rfl)
  obtain ⟨R, hR⟩ : ∃ R, T.R = R := ⟨_, rfl⟩
  have HR := Lib.hid hR
  rw [hR] at hr1 hr2 hrow HC HI
  clear h hR
  go_enter Try.func14, Try.ntmps14
  go_wp2
  go_loopw [5, 6] (fun n c wr => tloRel w T row n c wr) (fun _ c _ => 255 - (intOf c).toNat)
  case atStart => exact ⟨0, by omega, rfl, rfl, Eqv.refl w⟩
  case round =>
    obtain ⟨k, hk, rfl, rfl, hw⟩ := hrel
    have hb := lostN_le T row k
    have HN := Lib.hid (lostN_succ T row k)
    rw [HR.out] at HN
    obtain ⟨N, hN⟩ : ∃ N, lostN T row k = N := ⟨_, rfl⟩
    rw [hN] at hb HN ⊢
    have HW := Lib.hid hw
    clear hw
    by_cases hlt : k < 255
    · have hkI : (k : Int) < 255 := by omega
      have hat := at_lt (R := R) (c := k) hrow hlt
      have hm : (k : Int) * (R : Int) = ((k * R : Nat) : Int) := by simp
      have hkr : k * R ≤ 255 * R := Nat.mul_le_mul_right _ hk
      have HI5 := Lib.hid (fun (W : World) (e : Eqv wr W) => (e.cell ⟨bi, k * R + row, none⟩).trans ((HW.out.cell ⟨bi, k * R + row, none⟩).trans (HI.out.cell (k * R + row) hat)))
      obtain ⟨q, hq⟩ : ∃ q, T.Is (k * R + row) = q := ⟨_, rfl⟩
      rw [hq] at HI5 HN
      obtain ⟨p, hp⟩ : ∃ p, k * R = p := ⟨_, rfl⟩
      rw [hp] at hm hat HI5 hkr
      obtain ⟨a, ha⟩ : ∃ a, p + row = a := ⟨_, rfl⟩
      rw [ha] at hat HI5
      have hpa : (p : Int) + (row : Int) = (a : Int) := by omega
      have haI : (a : Int) < 255 * (R : Int) := by omega
      have wr1 := wrapI (a := (p : Int)) (by omega) (by omega)
      have wr2 := wrapI (a := (a : Int)) (by omega) (by omega)
      have wr3 := wrapI (a := (k : Int) + 1) (by omega) (by omega)
      have wr4 := wrapI (a := (N : Int) + 1) (by omega) (by omega)
      clear hq hp hN ha
      go_wp2
      refine wp_draw (by kernel_rfl) [.pointer (some ⟨x, 0, none⟩), .pointer (some ⟨x, 0, none⟩), .pointer (some ⟨x, 2, none⟩), sl0 bi (255 * R), .int .i64 (k : Int), .pointer (some ⟨x, 0, none⟩), .pointer (some ⟨x, 0, none⟩), .pointer (some ⟨x, 0, none⟩), .int .i64 (R : Int), .int .i64 (p : Int), .int .i64 (row : Int), .int .i64 (a : Int), .pointer (some ⟨bi, a, none⟩), .bool q, .bool (!q)]
        (fun _ W => Eqv wr W) rfl (by kernel_rfl) (fin := ?fin0) ?hfin0 (Eqv.drew wr) ?each0 ?hend0
      case hfin0 => simp [seqA, dstOf, Act.put]; rfl
      case each0 =>
        refine ⟨?_, ?_, ?_, ?_, ?_, ?_, ?_, ?_, ?_, ?_, ?_, ?_, ?_, ?_, ?_, trivial⟩
        all_goals intro L w5 h0 hd hs hw
        all_goals unfold Does
        all_goals have c0 := (HC.out.eqv (HW.out.trans hw)).cell 0 rfl
        all_goals have c2 := (HC.out.eqv (HW.out.trans hw)).cell 2 rfl
        all_goals have ci := HI5.out w5 hw
        all_goals go_simp
        all_goals first | exact fun L' k => hw
      case hend0 =>
      intro L w5 hL hw
      have HW5 := Lib.hid (HW.out.trans hw)
      clear hL hw
      cases q
      · go_wp2
        go_roundw
        case rel => exact ⟨k + 1, by omega, by go_num, by rw [HN.out]; go_num, HW5.out⟩
        case measure => simp [intOf]; omega
      · go_wp2
        go_roundw
        case rel => exact ⟨k + 1, by omega, by go_num, by rw [HN.out]; go_num, HW5.out⟩
        case measure => simp [intOf]; omega
    · obtain rfl : k = 255 := by omega
      have hkI : ¬ ((255 : Int) < 255) := by omega
      rw [HE.out] at hN
      subst hN
      go_wp2
      go_ret
      exact ⟨rfl, HW.out⟩
def layRel (S : Nat → Prop) (x bb bi bs : Nat) (T : Tb) (a : Nat) (s : ByteArray) (w : World) (i : Value) (wr : World) : Prop := ∃ k : Nat, k ≤ s.size ∧ i = .int .i64 (k : Int) ∧ RtIn S x bb bi bs (layT T a ((ls s).take k)) wr ∧ Foot S w wr
set_option maxHeartbeats 3200000 in
theorem rtlay_any {S : Nat → Prop} {x : Nat} {T : Tb} {w : World} (h : RtAt S x T w) {a : Nat} (s : ByteArray) (ha : a + s.size ≤ 255 * T.R) : Calls Try.prog 42 #[.pointer (some ⟨x, 0, none⟩), .int .i64 (a : Int), .string s] w fun e w' => e = .returned (.tuple #[]) ∧ RtAt S x (layT T a (ls s)) w' ∧ Foot S w w' := by
  obtain ⟨bb, bi, bs, h⟩ := h
  obtain ⟨hr1, hr2⟩ := h.ok.bd
  have HD := Lib.hid h.d
  have hxb : ¬ x = bb := h.d.1.1
  have hxi : ¬ x = bi := h.d.1.2.1
  have hib : ¬ bi = bb := Ne.symm h.d.2.1.1
  have HM := Lib.hid h.m
  have HH := Lib.hid h
  have HL := Lib.hid (ls_size s)
  obtain ⟨R, hR⟩ : ∃ R, T.R = R := ⟨_, rfl⟩
  have HR := Lib.hid hR
  rw [hR] at hr1 hr2 ha
  clear h hR
  go_enter Try.func42, Try.ntmps42
  go_wp2
  go_loopw [6] (fun i wr => layRel S x bb bi bs T a s w i wr) (fun i _ => s.size - (intOf i).toNat)
  case atStart => exact ⟨0, by omega, rfl, by rw [List.take_zero, layT_nil]; exact HH.out, Foot.refl S w⟩
  case round =>
    obtain ⟨k, hk, rfl, hin, hf⟩ := hrel
    have HIN := Lib.hid hin
    have HF := Lib.hid hf
    clear hin hf
    by_cases hlt : k < s.size
    · have hkI : (k : Int) < (s.size : Int) := by omega
      have g := ls_get s k hlt
      have HX := Lib.hid (layT_next T a (l := ls s) (k := k) (by rw [← HL.out]; exact hlt))
      obtain ⟨y, hy⟩ : ∃ y, cf (ls s) k = y := ⟨_, rfl⟩
      rw [hy] at g HX
      obtain ⟨T1, hT1⟩ : ∃ T1, layT T a ((ls s).take k) = T1 := ⟨_, rfl⟩
      rw [hT1] at HX HIN
      have HR1 := Lib.hid (show T1.R = R by rw [← hT1]; exact HR.out)
      obtain ⟨p, hp⟩ : ∃ p, a + k = p := ⟨_, rfl⟩
      rw [hp] at HX
      have hap : (a : Int) + (k : Int) = (p : Int) := by omega
      have hpI : (p : Int) < 255 * (R : Int) := by omega
      have hpR : p < 255 * R := by omega
      have wr1 := wrapI (a := (p : Int)) (by omega) (by omega)
      have wr3 := wrapI (a := (k : Int) + 1) (by omega) (by omega)
      have c1 := HIN.out.c.cell 1 rfl
      rw [HR1.out] at c1
      clear hy hT1 hp
      go_wp2
      refine wp_draw_tail 11 (by kernel_rfl) [.pointer (some ⟨x, 0, none⟩), .pointer (some ⟨x, 0, none⟩), .pointer (some ⟨x, 1, none⟩), sl0 bb (255 * R), .int .i64 (a : Int), .int .i64 (k : Int), .int .i64 (p : Int), .string s, .int .i64 (k : Int), .int .u8 (y.toNat : Int), .pointer (some ⟨bb, p, none⟩)]
        (fun _ W => Eqv wr W) rfl (by kernel_rfl) (by kernel_rfl) (fin := ?fin0) ?hfin0 (Eqv.drew wr) ?each0 ?hend0
      case hfin0 => simp [seqA, dstOf, Act.put]; rfl
      case each0 =>
        refine ⟨?_, ?_, ?_, ?_, ?_, ?_, ?_, ?_, ?_, ?_, ?_, trivial⟩
        all_goals intro L w5 h0 hd hs hw
        all_goals unfold Does
        all_goals have c1 := (hw.cell ⟨x, 1, none⟩).trans c1
        all_goals go_simp
        all_goals first | exact fun L' k => hw
      case hend0 =>
      intro L w5 hL hw
      simp only [List.drop_succ_cons, List.drop_zero]
      have h5 := HIN.out.eqv hw
      have e1 := h5.b.cell p (by rw [HR1.out]; exact hpR)
      have e2 := h5.b.free p (by rw [HR1.out]; exact hpR)
      have h6 := h5.setBI (k := p) (by rw [HR1.out]; exact hpR) y
      have HF6 := Lib.hid ((HF.out.same (Foot.eqv hw)).same ((Foot.setCell (p := ⟨bb, p, none⟩) (v := u8V y) HM.out.2.1).same (Foot.setCell (p := ⟨bi, p, none⟩) (v := .bool true) HM.out.2.2.1)))
      have d2 := h5.c.cell 2 rfl
      have d3 := h5.i.cell p (by rw [HR1.out]; exact hpR)
      have d4 := h5.i.free p (by rw [HR1.out]; exact hpR)
      rw [HR1.out] at d2
      have HH6 := Lib.hid h6
      clear h5 h6 hL hw c1
      go_wp2
      go_roundw
      case rel => exact ⟨k + 1, by omega, by go_num, by rw [HX.out]; exact HH6.out, HF6.out⟩
      case measure => simp [intOf]; omega
    · obtain rfl : k = s.size := by omega
      have hkI : ¬ ((s.size : Int) < (s.size : Int)) := by omega
      have HZ := Lib.hid (show RtAt S x (layT T a (ls s)) wr from ⟨bb, bi, bs, by have := HIN.out; rwa [HL.out, List.take_length] at this⟩)
      go_wp2
      go_end0
      exact ⟨rfl, HZ.out, HF.out⟩
/-- Put: where the bytes are not there. -/
theorem rtput_no {S : Nat → Prop} {x : Nat} {T : Tb} {w : World} (h : RtAt S x T w) (a : Int) (s : ByteArray) (ha : ¬ (0 ≤ a ∧ a + (s.size : Int) ≤ 191 * (T.R : Int))) : Calls Try.prog 25 #[.pointer (some ⟨x, 0, none⟩), .int .i64 a, .string s] w fun e w' => e = .returned (.bool false) ∧ w = w' := by
  obtain ⟨bb, bi, bs, h⟩ := h
  obtain ⟨hr1, hr2⟩ := h.ok.bd
  have c0 := h.c.cell 0 rfl
  obtain ⟨R, hR⟩ : ∃ R, T.R = R := ⟨_, rfl⟩
  rw [hR] at hr1 hr2 ha c0
  clear h hR
  have wr1 := wrapI (a := 191 * (R : Int)) (by omega) (by omega)
  by_cases h1 : a < 0
  · clear ha
    go_enter Try.func25, Try.ntmps25
    go_wp2
    go_ret
    exact ⟨rfl, rfl⟩
  · by_cases h2 : 191 * (R : Int) < a
    · clear ha
      go_enter Try.func25, Try.ntmps25
      go_wp2
      go_ret
      exact ⟨rfl, rfl⟩
    · have h3 : 191 * (R : Int) - a < (s.size : Int) := by omega
      have wr2 := wrapI (a := 191 * (R : Int) - a) (by omega) (by omega)
      clear ha
      go_enter Try.func25, Try.ntmps25
      go_wp2
      go_ret
      exact ⟨rfl, rfl⟩
theorem putT_nil (T : Tb) (a : Nat) : putT T a [] = T := by
  unfold putT
  rw [layT_nil]
  obtain ⟨R, B, I, Z⟩ := T
  show Tb.mk R B I _ = Tb.mk R B I Z
  congr 1
  funext n
  show ((decide (n = a) && decide (0 < 0)) || Z n) = Z n
  simp
set_option maxHeartbeats 1600000 in
/-- Put: where they are. -/
theorem rtput_ok {S : Nat → Prop} {x : Nat} {T : Tb} {w : World} (h : RtAt S x T w) (a : Nat) (s : ByteArray) (ha : a + s.size ≤ 191 * T.R) : Calls Try.prog 25 #[.pointer (some ⟨x, 0, none⟩), .int .i64 (a : Int), .string s] w fun e w' => e = .returned (.bool true) ∧ RtAt S x (putT T a (ls s)) w' ∧ Foot S w w' := by
  obtain ⟨hr1, hr2⟩ := h.ok.bd
  have HL := Lib.hid (fun (W : World) (k : RtAt S x T W) => rtlay_any k (a := a) s (by omega))
  have HH := Lib.hid h
  obtain ⟨bb, bi, bs, h⟩ := h
  have c0 := h.c.cell 0 rfl
  have HE := Lib.hid (ls_size s)
  have HP := Lib.hid (show putT T a (ls s) = { layT T a (ls s) with St := fun n => (decide (n = a) && decide (0 < (ls s).length)) || T.St n } from rfl)
  have HRL := Lib.hid (show (layT T a (ls s)).R = T.R from rfl)
  have HSL := Lib.hid (show (layT T a (ls s)).St = T.St from rfl)
  obtain ⟨T1, hT1⟩ : ∃ T1, layT T a (ls s) = T1 := ⟨_, rfl⟩
  rw [hT1] at HL HP HRL HSL
  obtain ⟨R, hR⟩ : ∃ R, T.R = R := ⟨_, rfl⟩
  rw [hR] at hr1 hr2 ha c0 HRL
  clear h hR hT1
  have wr1 := wrapI (a := 191 * (R : Int)) (by omega) (by omega)
  have wr2 := wrapI (a := 191 * (R : Int) - (a : Int)) (by omega) (by omega)
  have h1 : ¬ ((a : Int) < 0) := by omega
  have h2 : ¬ (191 * (R : Int) < (a : Int)) := by omega
  have h3 : ¬ (191 * (R : Int) - (a : Int) < (s.size : Int)) := by omega
  by_cases h0 : 0 < s.size
  · have h4 : (a : Int) < 191 * (R : Int) := by omega
    go_enter Try.func25, Try.ntmps25
    go_wp2_with (go_at_call 42; refine (HL.out _ HH.out).mono ?_; rintro _ w5 ⟨rfl, ⟨bb, bi, bs, h5⟩, f5⟩; have c3 := h5.c.cell 3 rfl; have d1 := h5.s.cell a (by rw [HRL.out]; omega); have d2 := h5.s.free a (by rw [HRL.out]; omega); rw [HRL.out] at c3; have HS := Lib.hid (h5.setS (k := a) (by rw [HRL.out]; omega)); have HF := Lib.hid (f5.same (Foot.setCell (p := ⟨bs, a, none⟩) (v := .bool true) h5.m.2.2.2)); clear h5 f5)
    go_ret
    refine ⟨rfl, ⟨bb, bi, bs, ?_⟩, HF.out⟩
    rw [HP.out]
    have := HS.out
    rw [HSL.out] at this
    rw [← HE.out, decide_eq_true h0]
    simpa using this
  · go_enter Try.func25, Try.ntmps25
    go_wp2_with (go_at_call 42; refine (HL.out _ HH.out).mono ?_; rintro _ w5 ⟨rfl, h5, f5⟩)
    go_ret
    refine ⟨rfl, ?_, f5⟩
    rw [HP.out, ← HE.out, decide_eq_false h0]
    simp only [Bool.and_false, Bool.false_or]
    rw [← HSL.out]
    exact h5
theorem rtparity_any {S : Nat → Prop} {x : Nat} {T : Tb} {w : World} (h : RtAt S x T w) {n : Nat} (hn : n < 64) (s : ByteArray) (hs : s.size = T.R) : Calls Try.prog 26 #[.pointer (some ⟨x, 0, none⟩), .int .i64 (n : Int), .string s] w fun e w' => e = .returned (.tuple #[]) ∧ RtAt S x (parT T n (ls s)) w' ∧ Foot S w w' := by
  obtain ⟨hr1, hr2⟩ := h.ok.bd
  have hbd : (191 + n) * T.R + T.R ≤ 255 * T.R := by
    have h1 : (191 + n) * T.R + T.R = (192 + n) * T.R := by rw [show 192 + n = (191 + n) + 1 by omega, Nat.add_mul (191 + n) 1, Nat.one_mul]
    have h2 : (192 + n) * T.R ≤ 255 * T.R := Nat.mul_le_mul_right _ (by omega)
    omega
  have HL := Lib.hid (fun (W : World) (k : RtAt S x T W) => rtlay_any k (a := (191 + n) * T.R) s (by omega))
  have HP := Lib.hid (show parT T n (ls s) = layT T ((191 + n) * T.R) (ls s) from rfl)
  have HH := Lib.hid h
  obtain ⟨bb, bi, bs, h⟩ := h
  have c0 := h.c.cell 0 rfl
  obtain ⟨R, hR⟩ : ∃ R, T.R = R := ⟨_, rfl⟩
  rw [hR] at hr1 hr2 c0 HL HP hbd
  have hm : (191 + (n : Int)) * (R : Int) = (((191 + n) * R : Nat) : Int) := by simp
  obtain ⟨a, ha⟩ : ∃ a, (191 + n) * R = a := ⟨_, rfl⟩
  rw [ha] at HL HP hm hbd
  clear h hR ha
  have wr1 := wrapI (a := 191 + (n : Int)) (by omega) (by omega)
  have wr2 := wrapI (a := (a : Int)) (by omega) (by omega)
  go_enter Try.func26, Try.ntmps26
  go_wp2_with (go_at_call 42; refine (HL.out _ HH.out).mono ?_; rintro _ w5 ⟨rfl, h5, f5⟩)
  go_end0
  exact ⟨rfl, by rw [HP.out]; exact h5, f5⟩
def padTo (T : Tb) (lo i : Nat) : Tb := { T with Is := fun n => decide (lo ≤ n ∧ n < i) || T.Is n }
theorem padTo_none (T : Tb) (lo : Nat) : padTo T lo lo = T := by
  obtain ⟨R, B, I, Z⟩ := T
  show Tb.mk R B _ Z = Tb.mk R B I Z
  congr 1
  funext n
  show (decide (lo ≤ n ∧ n < lo) || I n) = I n
  rw [decide_eq_false (by omega), Bool.false_or]
theorem padTo_next (T : Tb) {lo i : Nat} (h : lo ≤ i) : padTo T lo (i + 1) = { padTo T lo i with Is := fun n => decide (n = i) || (padTo T lo i).Is n } := by
  unfold padTo
  congr 1
  funext n
  show _ = (decide (n = i) || (decide (lo ≤ n ∧ n < i) || T.Is n))
  rw [← Bool.or_assoc]
  congr 1
  by_cases e : n = i
  · rw [decide_eq_true e, Bool.true_or, decide_eq_true (by omega)]
  · rw [decide_eq_false e, Bool.false_or]
    by_cases x : lo ≤ n ∧ n < i
    · rw [decide_eq_true x, decide_eq_true (by omega)]
    · rw [decide_eq_false x, decide_eq_false (by omega)]
def padRel (S : Nat → Prop) (x bb bi bs : Nat) (T : Tb) (lo : Nat) (w : World) (v : Value) (wr : World) : Prop := ∃ i : Nat, lo ≤ i ∧ i ≤ 191 * T.R ∧ v = .int .i64 (i : Int) ∧ RtIn S x bb bi bs (padTo T lo i) wr ∧ Foot S w wr
set_option maxHeartbeats 1600000 in
theorem rtpad_any {S : Nat → Prop} {x : Nat} {T : Tb} {w : World} (h : RtAt S x T w) {k : Nat} (hk : k ≤ 191) : Calls Try.prog 27 #[.pointer (some ⟨x, 0, none⟩), .int .i64 (k : Int)] w fun e w' => e = .returned (.tuple #[]) ∧ RtAt S x (padT T k) w' ∧ Foot S w w' := by
  obtain ⟨bb, bi, bs, h⟩ := h
  obtain ⟨hr1, hr2⟩ := h.ok.bd
  have HM := Lib.hid h.m
  have HP := Lib.hid (show padT T k = padTo T ((191 - k) * T.R) (191 * T.R) from rfl)
  have HH := Lib.hid h
  have c0 := h.c.cell 0 rfl
  have hlo : (191 - k) * T.R ≤ 191 * T.R := Nat.mul_le_mul_right _ (by omega)
  obtain ⟨R, hR⟩ : ∃ R, T.R = R := ⟨_, rfl⟩
  have HR := Lib.hid hR
  rw [hR] at hr1 hr2 c0 hlo HP
  have hm : (191 - (k : Int)) * (R : Int) = (((191 - k) * R : Nat) : Int) := by rw [Int.natCast_mul]; congr 1; omega
  obtain ⟨lo, hlo2⟩ : ∃ lo, (191 - k) * R = lo := ⟨_, rfl⟩
  rw [hlo2] at hm hlo HP
  clear h hR hlo2
  have wr0 := wrapI (a := 191 - (k : Int)) (by omega) (by omega)
  have wr1 := wrapI (a := 191 * (R : Int)) (by omega) (by omega)
  have wr2 := wrapI (a := (lo : Int)) (by omega) (by omega)
  go_enter Try.func27, Try.ntmps27
  go_wp2
  clear c0
  go_loopw [4] (fun i wr => padRel S x bb bi bs T lo w i wr) (fun i _ => 191 * R - (intOf i).toNat)
  case atStart => exact ⟨lo, Nat.le_refl _, by rw [HR.out]; exact hlo, rfl, by rw [padTo_none]; exact HH.out, Foot.refl S w⟩
  case round =>
    obtain ⟨i, hi1, hi2, rfl, hin, hf⟩ := hrel
    rw [HR.out] at hi2
    have HIN := Lib.hid hin
    have HF := Lib.hid hf
    have HX := Lib.hid (padTo_next T hi1)
    have HRP := Lib.hid (show (padTo T lo i).R = R from HR.out)
    have c0 := hin.c.cell 0 rfl
    have c2 := hin.c.cell 2 rfl
    rw [HRP.out] at c0 c2
    clear hin hf
    by_cases hlt : i < 191 * R
    · have hiI : (i : Int) < 191 * (R : Int) := by omega
      have hiJ : (i : Int) < 255 * (R : Int) := by omega
      have wr3 := wrapI (a := (i : Int) + 1) (by omega) (by omega)
      have d1 := HIN.out.i.cell i (by rw [HRP.out]; omega)
      have d2 := HIN.out.i.free i (by rw [HRP.out]; omega)
      have HS := Lib.hid (HIN.out.setI (k := i) (by rw [HRP.out]; omega))
      have HF2 := Lib.hid (HF.out.same (Foot.setCell (p := ⟨bi, i, none⟩) (v := .bool true) HM.out.2.2.1))
      go_wp2
      go_roundw
      case rel => exact ⟨i + 1, by omega, by rw [HR.out]; omega, by go_num, by rw [HX.out]; exact HS.out, HF2.out⟩
      case measure => simp [intOf]; omega
    · obtain rfl : i = 191 * R := by omega
      have hiI : ¬ (191 * (R : Int) < 191 * (R : Int)) := by omega
      have HZ := Lib.hid (show RtAt S x (padT T k) wr from ⟨bb, bi, bs, by rw [HP.out]; exact HIN.out⟩)
      go_wp2
      go_end0
      exact ⟨rfl, HZ.out, HF.out⟩
end Go.Proofs.Ytpkidopnkofccaa
