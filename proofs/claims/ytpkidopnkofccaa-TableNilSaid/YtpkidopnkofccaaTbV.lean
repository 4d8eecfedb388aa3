/-
  The program's table in memory, and what its calls New, Put, Parity, Pad, At, Lost and Clear answer. The memory that was there stays, but for the table's own.
-/
import Derived.Laws.BytesArg
import Derived.Test.YtpkidopnkofccaaTbRef
namespace Go.Proofs.Ytpkidopnkofccaa
open Go.RowKit Gf Fl
set_option maxRecDepth 100000
/-- Where the byte of a place stands in the rows. -/
def cp (R n : Nat) : Nat := n % R * 765 + n / R * 3
theorem cp_lt {R n : Nat} (hR : 0 < R) (hn : n < 255 * R) : cp R n + 3 ≤ R * 765 := by
  obtain ⟨h1, h2, _⟩ := at_eq hR hn
  unfold cp; omega
theorem cp_apart {R m n : Nat} (hR : 0 < R) (hm : m < 255 * R) (hn : n < 255 * R) (h : m ≠ n) : cp R m + 3 ≤ cp R n ∨ cp R n + 3 ≤ cp R m := by
  obtain ⟨a1, a2, a3⟩ := at_eq hR hm
  obtain ⟨b1, b2, b3⟩ := at_eq hR hn
  unfold cp
  by_cases e : m / R = n / R ∧ m % R = n % R
  · exact absurd (by rw [← a3, ← b3, e.1, e.2]) h
  · generalize m / R = a at *; generalize m % R = b at *; generalize n / R = c at *; generalize n % R = d at *
    omega
theorem cp_at {R c r : Nat} (hr : r < R) : cp R (c * R + r) = r * 765 + c * 3 := by unfold cp; rw [at_mod hr, at_div hr]
/-- The program's table: block x, its rows in block rb, all of them in S. -/
structure PtIn (S : Nat → Prop) (x rb : Nat) (T : Tb) (W : World) : Prop where
  ok : T.Ok
  c : CsAt x [.slice (some ⟨rb, 0, none⟩) T.R T.R] W
  v : ∀ n, n < 255 * T.R → W.cell? ⟨rb, cp T.R n, none⟩ = some (u8V (T.B n))
  i : ∀ n, n < 255 * T.R → W.cell? ⟨rb, cp T.R n + 1, none⟩ = some (.bool (T.Is n))
  s : ∀ n, n < 255 * T.R → W.cell? ⟨rb, cp T.R n + 2, none⟩ = some (.bool (T.St n))
  f : ∀ k, k < T.R * 765 → W.frozen? ⟨rb, k, none⟩ = false
  m : S x ∧ S rb
  d : x ≠ rb
  o : ∀ k, S k → k < W.heap.size
def PtAt (S : Nat → Prop) (x : Nat) (T : Tb) (W : World) : Prop := ∃ rb, PtIn S x rb T W
section
variable {S U : Nat → Prop} {x rb : Nat} {T : Tb} {W W' : World}
theorem PtIn.at (h : PtIn S x rb T W) (k : ∀ b, S b → W'.heap[b]? = W.heap[b]?) (hs : W.heap.size ≤ W'.heap.size) : PtIn S x rb T W' :=
  ⟨h.ok, h.c.block (k x h.m.1), fun n hn => (World.cell?_of_block (w := W) (a := ⟨rb, _, none⟩) (k rb h.m.2)).trans (h.v n hn), fun n hn => (World.cell?_of_block (w := W) (a := ⟨rb, _, none⟩) (k rb h.m.2)).trans (h.i n hn),
    fun n hn => (World.cell?_of_block (w := W) (a := ⟨rb, _, none⟩) (k rb h.m.2)).trans (h.s n hn), fun j hj => (World.frozen?_of_block (w := W) (a := ⟨rb, j, none⟩) (k rb h.m.2)).trans (h.f j hj), h.m, h.d, fun b hb => Nat.lt_of_lt_of_le (h.o b hb) hs⟩
theorem PtIn.foot (h : PtIn S x rb T W) (k : Foot U W W') (hd : ∀ b, S b → ¬ U b) : PtIn S x rb T W' := h.at (fun b hb => k.block b (h.o b hb) (hd b hb)) k.size
theorem PtIn.keeps (h : PtIn S x rb T W) (k : Keeps W W') : PtIn S x rb T W' := h.at (fun b hb => Below.block k b (h.o b hb)) (Below.size k)
theorem PtIn.eqv (h : PtIn S x rb T W) (k : Eqv W W') : PtIn S x rb T W' := h.at (fun b _ => by rw [k.heap]) (by rw [k.size]; exact Nat.le_refl _)
theorem PtAt.foot (h : PtAt S x T W) (k : Foot U W W') (hd : ∀ b, S b → ¬ U b) : PtAt S x T W' := by obtain ⟨rb, h⟩ := h; exact ⟨rb, h.foot k hd⟩
theorem PtAt.keeps (h : PtAt S x T W) (k : Keeps W W') : PtAt S x T W' := by obtain ⟨rb, h⟩ := h; exact ⟨rb, h.keeps k⟩
theorem PtAt.ok (h : PtAt S x T W) : T.Ok := by obtain ⟨_, h⟩ := h; exact h.ok
theorem PtAt.old (h : PtAt S x T W) : ∀ k, S k → k < W.heap.size := by obtain ⟨_, h⟩ := h; exact h.o
theorem PtIn.only (h : PtIn S x rb T W) {o : Nat} {y : Value} (T' : Tb) (hR : T'.R = T.R) (hok : T'.Ok)
    (hv : ∀ n, n < 255 * T.R → (W.setCell ⟨rb, o, none⟩ y).cell? ⟨rb, cp T.R n, none⟩ = some (u8V (T'.B n)))
    (hi : ∀ n, n < 255 * T.R → (W.setCell ⟨rb, o, none⟩ y).cell? ⟨rb, cp T.R n + 1, none⟩ = some (.bool (T'.Is n)))
    (hs : ∀ n, n < 255 * T.R → (W.setCell ⟨rb, o, none⟩ y).cell? ⟨rb, cp T.R n + 2, none⟩ = some (.bool (T'.St n))) : PtIn S x rb T' (W.setCell ⟨rb, o, none⟩ y) := by
  have ho := Only.setCell W ⟨rb, o, none⟩ y
  refine ⟨hok, ?_, by rw [hR]; exact hv, by rw [hR]; exact hi, by rw [hR]; exact hs, fun k hk => ?_, h.m, h.d, fun b hb => Nat.lt_of_lt_of_le (h.o b hb) ho.size⟩
  · rw [hR]; exact h.c.only h.d ho
  · rw [hR] at hk
    simp [h.f k hk]
/-- A place is known; a place is a beginning. -/
theorem PtIn.setI (h : PtIn S x rb T W) {k : Nat} (hk : k < 255 * T.R) : PtIn S x rb { T with Is := fun n => decide (n = k) || T.Is n } (W.setCell ⟨rb, cp T.R k + 1, none⟩ (.bool true)) := by
  have hR : 0 < T.R := by have := h.ok.bd; omega
  refine h.only _ rfl ⟨h.ok.r, fun n hn => ?_, fun n hn => ?_, h.ok.s⟩ (fun n hn => ?_) (fun n hn => ?_) fun n hn => ?_
  · have hn' : (decide (n = k) || T.Is n) = false := hn
    rw [Bool.or_eq_false_iff] at hn'
    exact h.ok.z n hn'.2
  · have hn' : 255 * T.R ≤ n := hn
    show (decide (n = k) || T.Is n) = false
    rw [decide_eq_false (by omega), Bool.false_or]
    exact h.ok.i n hn'
  · rw [set_other (by by_cases e : n = k; (subst e; omega); (have := cp_apart hR hn hk e; omega))]; exact h.v n hn
  · show _ = some (Value.bool (decide (n = k) || T.Is n))
    by_cases e : n = k
    · subst e; rw [decide_eq_true rfl, Bool.true_or]; exact set_same (h.i n hn)
    · rw [set_other (by have := cp_apart hR hn hk e; omega), decide_eq_false e, Bool.false_or]; exact h.i n hn
  · rw [set_other (by by_cases e : n = k; (subst e; omega); (have := cp_apart hR hn hk e; omega))]; exact h.s n hn
theorem PtIn.setS (h : PtIn S x rb T W) {k : Nat} (hk : k < 191 * T.R) : PtIn S x rb { T with St := fun n => decide (n = k) || T.St n } (W.setCell ⟨rb, cp T.R k + 2, none⟩ (.bool true)) := by
  have hR : 0 < T.R := by have := h.ok.bd; omega
  have hk2 : k < 255 * T.R := by omega
  refine h.only _ rfl ⟨h.ok.r, h.ok.z, h.ok.i, fun n hn => ?_⟩ (fun n hn => ?_) (fun n hn => ?_) fun n hn => ?_
  · have hn' : 191 * T.R ≤ n := hn
    show (decide (n = k) || T.St n) = false
    rw [decide_eq_false (by omega), Bool.false_or]
    exact h.ok.s n hn'
  · rw [set_other (by by_cases e : n = k; (subst e; omega); (have := cp_apart hR hn hk2 e; omega))]; exact h.v n hn
  · rw [set_other (by by_cases e : n = k; (subst e; omega); (have := cp_apart hR hn hk2 e; omega))]; exact h.i n hn
  · show _ = some (Value.bool (decide (n = k) || T.St n))
    by_cases e : n = k
    · subst e; rw [decide_eq_true rfl, Bool.true_or]; exact set_same (h.s n hn)
    · rw [set_other (by have := cp_apart hR hn hk2 e; omega), decide_eq_false e, Bool.false_or]; exact h.s n hn
/-- A byte is written, and known. -/
theorem PtIn.setBI (h : PtIn S x rb T W) {k : Nat} (hk : k < 255 * T.R) (y : UInt8) : PtIn S x rb { T with B := fun n => if n = k then y else T.B n, Is := fun n => decide (n = k) || T.Is n } ((W.setCell ⟨rb, cp T.R k, none⟩ (u8V y)).setCell ⟨rb, cp T.R k + 1, none⟩ (.bool true)) := by
  have hR : 0 < T.R := by have := h.ok.bd; omega
  have ho := Only.setCell W ⟨rb, cp T.R k, none⟩ (u8V y)
  have ho2 := Only.setCell (W.setCell ⟨rb, cp T.R k, none⟩ (u8V y)) ⟨rb, cp T.R k + 1, none⟩ (.bool true)
  refine ⟨⟨h.ok.r, fun n hn => ?_, fun n hn => ?_, h.ok.s⟩, (h.c.only h.d ho).only h.d ho2, fun n hn => ?_, fun n hn => ?_, fun n hn => ?_, fun j hj => ?_, h.m, h.d, fun b hb => Nat.lt_of_lt_of_le (h.o b hb) (Nat.le_trans ho.size ho2.size)⟩
  · have hn' : (decide (n = k) || T.Is n) = false := hn
    rw [Bool.or_eq_false_iff] at hn'
    show (if n = k then y else T.B n) = 0
    rw [if_neg (of_decide_eq_false hn'.1)]
    exact h.ok.z n hn'.2
  · have hn' : 255 * T.R ≤ n := hn
    show (decide (n = k) || T.Is n) = false
    rw [decide_eq_false (by omega), Bool.false_or]
    exact h.ok.i n hn'
  · show _ = some (u8V (if n = k then y else T.B n))
    have hn' : n < 255 * T.R := hn
    by_cases e : n = k
    · subst e; rw [if_pos rfl]; show ((W.setCell ⟨rb, cp T.R n, none⟩ (u8V y)).setCell ⟨rb, cp T.R n + 1, none⟩ (.bool true)).cell? ⟨rb, cp T.R n, none⟩ = _
      rw [set_other (by omega)]; exact set_same (h.v n hn')
    · have := cp_apart hR hn' hk e
      rw [if_neg e]; show ((W.setCell ⟨rb, cp T.R k, none⟩ (u8V y)).setCell ⟨rb, cp T.R k + 1, none⟩ (.bool true)).cell? ⟨rb, cp T.R n, none⟩ = _
      rw [set_other (by omega), set_other (by omega)]; exact h.v n hn'
  · show _ = some (Value.bool (decide (n = k) || T.Is n))
    have hn' : n < 255 * T.R := hn
    by_cases e : n = k
    · subst e; rw [decide_eq_true rfl, Bool.true_or]; show ((W.setCell ⟨rb, cp T.R n, none⟩ (u8V y)).setCell ⟨rb, cp T.R n + 1, none⟩ (.bool true)).cell? ⟨rb, cp T.R n + 1, none⟩ = _
      exact set_same (u := .bool (T.Is n)) (by rw [set_other (by omega)]; exact h.i n hn')
    · have := cp_apart hR hn' hk e
      rw [decide_eq_false e, Bool.false_or]; show ((W.setCell ⟨rb, cp T.R k, none⟩ (u8V y)).setCell ⟨rb, cp T.R k + 1, none⟩ (.bool true)).cell? ⟨rb, cp T.R n + 1, none⟩ = _
      rw [set_other (by omega), set_other (by omega)]; exact h.i n hn'
  · have hn' : n < 255 * T.R := hn
    show ((W.setCell ⟨rb, cp T.R k, none⟩ (u8V y)).setCell ⟨rb, cp T.R k + 1, none⟩ (.bool true)).cell? ⟨rb, cp T.R n + 2, none⟩ = some (Value.bool (T.St n))
    rw [set_other (by by_cases e : n = k; (subst e; omega); (have := cp_apart hR hn' hk e; omega)), set_other (by by_cases e : n = k; (subst e; omega); (have := cp_apart hR hn' hk e; omega))]; exact h.s n hn'
  · simp [h.f j hj]
end
/-- Numbers as floats, and back. -/
theorem tbF (n : Nat) (W : World) : (convert 3 90 (.int .i64 (n : Int))).run Try.prog W = .ok (.float .f64 (fl n)) W :=
  run_convert_int_float W 3 90 .i64 .f64 (n : Int) (by rw [Try.underlying3]; rfl) Try.underlying90
theorem tbI {n : Nat} (h : n < 9007199254740992) (W : World) : (convert 90 3 (.float .f64 (fl n))).run Try.prog W = .ok (.int .i64 (n : Int)) W :=
  run_convert_float_int W 90 3 .f64 .i64 (fl n) (n : Int) (by rw [Try.underlying90]; rfl) Try.underlying3 (fl_int n h .i64 ⟨by show (-9223372036854775808 : Int) ≤ _; omega, by show (n : Int) ≤ 9223372036854775807; omega⟩)
theorem tbplace_any (c r : Nat) (w : World) : Calls Try.prog 35 #[.int .i64 (c : Int), .int .i64 (r : Int)] w fun e w' => e = .returned (.complex .f64 (fl c) (fl r)) ∧ w = w' := by
  have h1 := tbF c
  have h2 := tbF r
  go_enter Try.func35, Try.ntmps35
  go_wp2
  go_ret
  exact ⟨rfl, rfl⟩
theorem tbsize_any {S : Nat → Prop} {x : Nat} {T : Tb} {w : World} (h : PtAt S x T w) : Calls Try.prog 28 #[.pointer (some ⟨x, 0, none⟩)] w fun e w' => e = .returned (.int .i64 (191 * (T.R : Int))) ∧ w = w' := by
  obtain ⟨rb, h⟩ := h
  obtain ⟨hr1, hr2⟩ := h.ok.bd
  have c0 := h.c.cell 0 rfl
  obtain ⟨R, hR⟩ : ∃ R, T.R = R := ⟨_, rfl⟩
  rw [hR] at hr1 hr2 c0 ⊢
  clear h hR
  have wr1 := wrapI (a := 191 * (R : Int)) (by omega) (by omega)
  go_enter Try.func28, Try.ntmps28
  go_wp2
  go_ret
  exact ⟨rfl, rfl⟩
theorem tbcell_any {S : Nat → Prop} {x rb : Nat} {T : Tb} {w : World} (h : PtIn S x rb T w) {c r : Nat} (hc : c < 255) (hr : r < T.R) : Calls Try.prog 34 #[.pointer (some ⟨x, 0, none⟩), .complex .f64 (fl c) (fl r)] w fun e w' => e = .returned (.pointer (some ⟨rb, r * 765 + c * 3, none⟩)) ∧ w = w' := by
  obtain ⟨hr1, hr2⟩ := h.ok.bd
  have c0 := h.c.cell 0 rfl
  obtain ⟨R, hR⟩ : ∃ R, T.R = R := ⟨_, rfl⟩
  rw [hR] at hr1 hr2 c0 hr
  clear h hR
  have h1 := tbI (n := c) (by omega)
  have h2 := tbI (n := r) (by omega)
  have hcI : (c : Int) < 255 := by omega
  have hrI : (r : Int) < (R : Int) := by omega
  go_enter Try.func34, Try.ntmps34
  go_wp2
  go_ret
  exact ⟨rfl, rfl⟩
theorem tbset_any {g p : Nat} {v u : Value} {b : Int} {w : World} (h0 : w.cell? ⟨g, p, none⟩ = some v) (h1 : w.cell? ⟨g, p + 1, none⟩ = some u) (f0 : w.frozen? ⟨g, p, none⟩ = false) (f1 : w.frozen? ⟨g, p + 1, none⟩ = false) :
    Calls Try.prog 33 #[.pointer (some ⟨g, p, none⟩), .int .u8 b] w fun e w' => e = .returned (.tuple #[]) ∧ w' = (w.setCell ⟨g, p, none⟩ (.int .u8 b)).setCell ⟨g, p + 1, none⟩ (.bool true) := by
  go_enter Try.func33, Try.ntmps33
  go_wp2
  go_end0
  exact ⟨rfl, rfl⟩
set_option maxHeartbeats 1600000 in
theorem tbdata_any {S : Nat → Prop} {x rb : Nat} {T : Tb} {w : World} (h : PtIn S x rb T w) {n : Nat} (hn : n < 255 * T.R) : Calls Try.prog 29 #[.pointer (some ⟨x, 0, none⟩), .int .i64 (n : Int)] w fun e w' => e = .returned (.pointer (some ⟨rb, cp T.R n, none⟩)) ∧ Eqv w w' := by
  obtain ⟨hr1, hr2⟩ := h.ok.bd
  have HC := Lib.hid h.c
  have HCE := Lib.hid (fun (W : World) (e : Eqv w W) (c r : Nat) (hc : c < 255) (hr : r < T.R) => tbcell_any (h.eqv e) hc hr)
  obtain ⟨hq1, hq2, _⟩ := at_eq (by omega) hn
  have HP := Lib.hid (show cp T.R n = n % T.R * 765 + n / T.R * 3 from rfl)
  obtain ⟨R, hR⟩ : ∃ R, T.R = R := ⟨_, rfl⟩
  rw [hR] at hr1 hr2 hn HC HCE hq1 hq2 HP ⊢
  clear h hR
  rw [HP.out]
  have ed : (n : Int).tdiv (R : Int) = ((n / R : Nat) : Int) := by rw [Int.tdiv_eq_ediv_of_nonneg (by omega)]; rfl
  have em : (n : Int).tmod (R : Int) = ((n % R : Nat) : Int) := by rw [Int.tmod_eq_emod_of_nonneg (by omega)]; rfl
  obtain ⟨q, hq⟩ : ∃ q, n / R = q := ⟨_, rfl⟩
  obtain ⟨r, hr⟩ : ∃ r, n % R = r := ⟨_, rfl⟩
  rw [hq] at ed hq1 ⊢
  rw [hr] at em hq2 ⊢
  clear hq hr HP
  have hR0 : ¬ R = 0 := by omega
  have wr1 := wrapI (a := (q : Int)) (by omega) (by omega)
  have HPL := Lib.hid (fun (W : World) => tbplace_any q r W)
  have HCL := Lib.hid (fun (W : World) (e : Eqv w W) => HCE.out W e q r hq1 hq2)
  clear HCE
  go_enter Try.func29, Try.ntmps29
  go_wp2
  refine wp_draw (by kernel_rfl) [.pointer (some ⟨x, 0, none⟩), .int .i64 (n : Int), .pointer (some ⟨x, 0, none⟩), .pointer (some ⟨x, 0, none⟩), .pointer (some ⟨x, 0, none⟩), .slice (some ⟨rb, 0, none⟩) R R, .int .i64 (R : Int), .int .i64 (q : Int), .int .i64 (n : Int), .pointer (some ⟨x, 0, none⟩), .pointer (some ⟨x, 0, none⟩), .pointer (some ⟨x, 0, none⟩), .slice (some ⟨rb, 0, none⟩) R R, .int .i64 (R : Int), .int .i64 (r : Int), .complex .f64 (fl q) (fl r), .pointer (some ⟨rb, r * 765 + q * 3, none⟩), .pointer (some ⟨rb, r * 765 + q * 3, none⟩)]
    (fun _ W => Eqv w W) rfl (by kernel_rfl) (fin := ?fin0) ?hfin0 (Eqv.drew w) ?each0 ?hend0
  case hfin0 => simp [seqA, dstOf, Act.put]; rfl
  case each0 =>
    refine ⟨?_, ?_, ?_, ?_, ?_, ?_, ?_, ?_, ?_, ?_, ?_, ?_, ?_, ?_, ?_, ?_, ?_, ?_, trivial⟩
    all_goals intro L w5 h0 hd hs hw
    all_goals unfold Does
    all_goals have c0 := (HC.out.eqv hw).cell 0 rfl
    all_goals go_simp
    all_goals first | exact fun L' k => hw | ((with_reducible refine (HPL.out w5).mono ?_); rintro _ w6 ⟨rfl, rfl⟩; exact ⟨_, rfl, rfl, fun _ _ => hw⟩) | ((with_reducible refine (HCL.out w5 hw).mono ?_); rintro _ w6 ⟨rfl, rfl⟩; exact ⟨_, rfl, rfl, fun _ _ => hw⟩)
  case hend0 =>
  intro L w5 hL hw
  have HW := Lib.hid hw
  clear hL hw
  go_wp2
  go_ret
  exact ⟨rfl, HW.out⟩
def PtW (S : Nat → Prop) (x rb : Nat) (T : Tb) (w : World) (W : World) : Prop := PtIn S x rb T W ∧ Foot S w W
theorem PtIn.same2 {S : Nat → Prop} {rb o1 o2 : Nat} {v1 v2 : Value} {w W W' : World} (hf : Foot S w W) (e : Eqv W W') (hm : S rb) : Foot S w ((W'.setCell ⟨rb, o1, none⟩ v1).setCell ⟨rb, o2, none⟩ v2) :=
  (hf.same (Foot.eqv e)).same ((Foot.setCell (p := ⟨rb, o1, none⟩) (v := v1) hm).same (Foot.setCell (p := ⟨rb, o2, none⟩) (v := v2) hm))
/-- Put: where the bytes are not there. -/
theorem tbput_no {S : Nat → Prop} {x : Nat} {T : Tb} {w : World} (h : PtAt S x T w) (a : Int) (s : ByteArray) (hsz : s.size ≤ maxLen) (ha : ¬ (0 ≤ a ∧ a + (s.size : Int) ≤ 191 * (T.R : Int))) : Calls Try.prog 17 #[.pointer (some ⟨x, 0, none⟩), .int .i64 a, .string s] w fun e w' => e = .returned (.int .i64 15) ∧ w = w' := by
  obtain ⟨hr1, hr2⟩ := h.ok.bd
  have HSZ := Lib.hid (tbsize_any h)
  obtain ⟨R, hR⟩ : ∃ R, T.R = R := ⟨_, rfl⟩
  rw [hR] at hr1 hr2 ha HSZ
  clear h hR
  unfold maxLen at hsz
  have wr2 : IntKind.i64.wrap (191 * (R : Int) - (s.size : Int)) = 191 * (R : Int) - (s.size : Int) := by rw [IntKind.wrap_i64]; omega
  by_cases h1 : a < 0
  · clear ha
    go_enter Try.func17, Try.ntmps17
    go_wp2
    go_ret
    exact ⟨rfl, rfl⟩
  · have h3 : 191 * (R : Int) - (s.size : Int) < a := by omega
    clear ha
    go_enter Try.func17, Try.ntmps17
    go_wp2_with (go_at_call 28; refine HSZ.out.mono ?_; rintro _ w5 ⟨rfl, rfl⟩)
    go_ret
    exact ⟨rfl, rfl⟩
def tputRel (S : Nat → Prop) (x rb : Nat) (T : Tb) (a : Nat) (s : ByteArray) (w : World) (i : Value) (wr : World) : Prop := ∃ k : Nat, k ≤ s.size ∧ i = .int .i64 (k : Int) ∧ PtIn S x rb (layT T a ((ls s).take k)) wr ∧ Foot S w wr
set_option maxHeartbeats 3200000 in
/-- Put: where they are. -/
theorem tbput_ok {S : Nat → Prop} {x : Nat} {T : Tb} {w : World} (h : PtAt S x T w) (a : Nat) (s : ByteArray) (ha : a + s.size ≤ 191 * T.R) : Calls Try.prog 17 #[.pointer (some ⟨x, 0, none⟩), .int .i64 (a : Int), .string s] w fun e w' => e = .returned (.int .i64 0) ∧ PtAt S x (putT T a (ls s)) w' ∧ Foot S w w' := by
  have HSZ := Lib.hid (tbsize_any h)
  obtain ⟨rb, h⟩ := h
  obtain ⟨hr1, hr2⟩ := h.ok.bd
  have HM := Lib.hid h.m
  have HH := Lib.hid h
  have HL := Lib.hid (ls_size s)
  have HPN := Lib.hid (fun (e : s.size = 0) => show putT T a (ls s) = T by
    have : ls s = [] := by rw [← List.length_eq_zero_iff, ← ls_size, e]
    rw [this]; exact putT_nil T a)
  have HPP := Lib.hid (fun (e : 0 < s.size) => show putT T a (ls s) = { layT T a (ls s) with St := fun n => decide (n = a) || T.St n } by
    unfold putT
    rw [← ls_size, decide_eq_true e]
    simp only [Bool.and_true])
  obtain ⟨R, hR⟩ : ∃ R, T.R = R := ⟨_, rfl⟩
  have HR := Lib.hid hR
  rw [hR] at hr1 hr2 ha HSZ
  clear h hR
  have wr1 := wrapI (a := 191 * (R : Int)) (by omega) (by omega)
  have wr2 := wrapI (a := 191 * (R : Int) - (s.size : Int)) (by omega) (by omega)
  have h1 : ¬ ((a : Int) < 0) := by omega
  have h3 : ¬ (191 * (R : Int) - (s.size : Int) < (a : Int)) := by omega
  go_enter Try.func17, Try.ntmps17
  go_wp2_with (go_at_call 28; refine HSZ.out.mono ?_; rintro _ w5 ⟨rfl, rfl⟩)
  go_loopw [25] (fun i wr => tputRel S x rb T a s w i wr) (fun i _ => s.size - (intOf i).toNat)
  case atStart => exact ⟨0, by omega, rfl, by rw [List.take_zero, layT_nil]; exact HH.out, Foot.refl S w⟩
  case round =>
    obtain ⟨k, hk, rfl, hin, hf⟩ := hrel
    have HIN := Lib.hid hin
    have HF := Lib.hid hf
    clear hin hf
    by_cases hlt : k < s.size
    · have hkI : (k : Int) < (s.size : Int) := by omega
      have g := ls_get s k hlt
      have HX := Lib.hid (layT_next T a (l := ls s) (k := k) (by rw [← HL.out]; exact hlt))
      obtain ⟨y, hy⟩ : ∃ y, cf (ls s) k = y := ⟨_, rfl⟩
      rw [hy] at g HX
      obtain ⟨T1, hT1⟩ : ∃ T1, layT T a ((ls s).take k) = T1 := ⟨_, rfl⟩
      rw [hT1] at HX HIN
      have HR1 := Lib.hid (show T1.R = R by rw [← hT1]; exact HR.out)
      obtain ⟨p, hp⟩ : ∃ p, a + k = p := ⟨_, rfl⟩
      rw [hp] at HX
      have hap : (a : Int) + (k : Int) = (p : Int) := by omega
      have hpR : p < 255 * R := by omega
      have wr4 := wrapI (a := (p : Int)) (by omega) (by omega)
      have wr5 := wrapI (a := (k : Int) + 1) (by omega) (by omega)
      have HDA := Lib.hid (fun (W : World) (e : Eqv wr W) => tbdata_any (HIN.out.eqv e) (n := p) (by rw [HR1.out]; exact hpR))
      obtain ⟨q, hq⟩ : ∃ q, cp T1.R p = q := ⟨_, rfl⟩
      rw [hq] at HDA
      have HQ := Lib.hid hq
      clear hy hT1 hp hq
      go_wp2
      refine wp_draw_tail 8 (by kernel_rfl) [.pointer (some ⟨x, 0, none⟩), .int .i64 (a : Int), .int .i64 (k : Int), .int .i64 (p : Int), .pointer (some ⟨rb, q, none⟩), .string s, .int .i64 (k : Int), .int .u8 (y.toNat : Int)]
        (fun _ W => Eqv wr W) rfl (by kernel_rfl) (by kernel_rfl) (fin := ?fin0) ?hfin0 (Eqv.drew wr) ?each0 ?hend0
      case hfin0 => simp [seqA, dstOf, Act.put]; rfl
      case each0 =>
        refine ⟨?_, ?_, ?_, ?_, ?_, ?_, ?_, ?_, trivial⟩
        all_goals intro L w5 h0 hd hs hw
        all_goals unfold Does
        all_goals go_simp
        all_goals first | exact fun L' k => hw | ((with_reducible refine (HDA.out w5 hw).mono ?_); rintro _ w6 ⟨rfl, he⟩; exact ⟨_, rfl, rfl, fun _ _ => hw.trans he⟩)
      case hend0 =>
      intro L w5 hL hw
      simp only [List.drop_succ_cons, List.drop_zero]
      have h5 := HIN.out.eqv hw
      have hp2 : p < 255 * T1.R := by rw [HR1.out]; exact hpR
      have hcl := cp_lt (R := T1.R) (by rw [HR1.out]; omega) hp2
      have HST := Lib.hid (tbset_any (b := (y.toNat : Int)) (h5.v p hp2) (h5.i p hp2) (h5.f _ (by omega)) (h5.f _ (by omega)))
      have h6 := h5.setBI hp2 y
      have HF6 := Lib.hid (PtIn.same2 (o1 := cp T1.R p) (o2 := cp T1.R p + 1) (v1 := u8V y) (v2 := .bool true) HF.out hw HM.out.2)
      rw [HQ.out] at HST HF6 h6
      have HH6 := Lib.hid h6
      clear h5 h6 hL hw hcl hp2
      go_wp2_with (go_at_call 33; refine HST.out.mono ?_; rintro _ w6 ⟨rfl, rfl⟩)
      go_roundw
      case rel => exact ⟨k + 1, by omega, by go_num, by rw [HX.out]; exact HH6.out, HF6.out⟩
      case measure => simp [intOf]; omega
    · obtain rfl : k = s.size := by omega
      have hkI : ¬ ((s.size : Int) < (s.size : Int)) := by omega
      have HZ := Lib.hid (show PtIn S x rb (layT T a (ls s)) wr by have := HIN.out; rwa [HL.out, List.take_length] at this)
      by_cases h0 : s.size = 0
      · have HZ2 := Lib.hid (show PtAt S x (putT T a (ls s)) wr from ⟨rb, by
          have := HZ.out
          rw [HPN.out h0]
          rwa [show ls s = [] by rw [← List.length_eq_zero_iff, ← ls_size, h0], layT_nil] at this⟩)
        have hE : s.toList.isEmpty = true := by rw [ls_toList, List.isEmpty_iff, ← List.length_eq_zero_iff, ← ls_size, h0]
        clear h0
        go_wp2
        go_ret
        exact ⟨rfl, HZ2.out, HF.out⟩
      · have hE : s.toList.isEmpty = false := by rw [ls_toList, List.isEmpty_eq_false_iff, ne_eq, ← List.length_eq_zero_iff, ← ls_size]; exact h0
        have hpos : 0 < s.size := by omega
        have HPY := Lib.hid (HPP.out hpos)
        have HRL := Lib.hid (show (layT T a (ls s)).R = R from HR.out)
        have HSL := Lib.hid (show (layT T a (ls s)).St = T.St from rfl)
        obtain ⟨T1, hT1⟩ : ∃ T1, layT T a (ls s) = T1 := ⟨_, rfl⟩
        rw [hT1] at HZ HPY HRL HSL
        have haR : a < 191 * R := by omega
        have HDA := Lib.hid (tbdata_any HZ.out (n := a) (by rw [HRL.out]; omega))
        obtain ⟨q, hq⟩ : ∃ q, cp T1.R a = q := ⟨_, rfl⟩
        rw [hq] at HDA
        have HQ := Lib.hid hq
        clear h0 hT1 hq
        go_wp2_with (go_at_call 29; refine HDA.out.mono ?_; rintro _ w6 ⟨rfl, he⟩; have d1 := (HZ.out.eqv he).s a (by rw [HRL.out]; omega); have d2 := (HZ.out.eqv he).f (cp T1.R a + 2) (by have := cp_lt (R := T1.R) (n := a) (by rw [HRL.out]; omega) (by rw [HRL.out]; omega); omega); have HS := Lib.hid ((HZ.out.eqv he).setS (k := a) (by rw [HRL.out]; exact haR)); have HF6 := Lib.hid ((HF.out.same (Foot.eqv he)).same (Foot.setCell (p := ⟨rb, cp T1.R a + 2, none⟩) (v := .bool true) HM.out.2)); rw [HQ.out] at d1 d2 HS HF6; clear he)
        go_ret
        refine ⟨rfl, ⟨rb, ?_⟩, HF6.out⟩
        rw [HPY.out, ← HSL.out]
        exact HS.out
theorem tbput_nil (a : Int) (s : ByteArray) (w : World) : Calls Try.prog 17 #[.pointer none, .int .i64 a, .string s] w fun e w' => e = .returned (.int .i64 2) ∧ w = w' := by
  go_enter Try.func17, Try.ntmps17
  go_wp2
  go_ret
  exact ⟨rfl, rfl⟩
/-- Parity. -/
theorem tbpar_nil (n : Int) (s : ByteArray) (w : World) : Calls Try.prog 19 #[.pointer none, .int .i64 n, .string s] w fun e w' => e = .returned (.int .i64 2) ∧ w = w' := by
  go_enter Try.func19, Try.ntmps19
  go_wp2
  go_ret
  exact ⟨rfl, rfl⟩
theorem tbpar_range {x : Nat} {n : Int} (hn : ¬ (0 ≤ n ∧ n < 64)) (s : ByteArray) (w : World) : Calls Try.prog 19 #[.pointer (some ⟨x, 0, none⟩), .int .i64 n, .string s] w fun e w' => e = .returned (.int .i64 15) ∧ w = w' := by
  by_cases h1 : n < 0
  · clear hn
    go_enter Try.func19, Try.ntmps19
    go_wp2
    go_ret
    exact ⟨rfl, rfl⟩
  · have h2 : 64 ≤ n := by omega
    clear hn
    go_enter Try.func19, Try.ntmps19
    go_wp2
    go_ret
    exact ⟨rfl, rfl⟩
theorem tbpar_form {S : Nat → Prop} {x : Nat} {T : Tb} {w : World} (h : PtAt S x T w) {n : Int} (h0 : 0 ≤ n) (h1 : n < 64) (s : ByteArray) (hs : ¬ s.size = T.R) : Calls Try.prog 19 #[.pointer (some ⟨x, 0, none⟩), .int .i64 n, .string s] w fun e w' => e = .returned (.int .i64 12) ∧ w = w' := by
  obtain ⟨rb, h⟩ := h
  have c0 := h.c.cell 0 rfl
  obtain ⟨R, hR⟩ : ∃ R, T.R = R := ⟨_, rfl⟩
  rw [hR] at hs c0
  clear h hR
  have hb : ((s.size : Int) == (R : Int)) = false := by rw [beq_eq_false_iff_ne]; omega
  clear hs
  go_enter Try.func19, Try.ntmps19
  go_wp2
  go_ret
  exact ⟨rfl, rfl⟩
set_option maxHeartbeats 3200000 in
theorem tbpar_ok {S : Nat → Prop} {x : Nat} {T : Tb} {w : World} (h : PtAt S x T w) {n : Nat} (hn : n < 64) (s : ByteArray) (hs : s.size = T.R) : Calls Try.prog 19 #[.pointer (some ⟨x, 0, none⟩), .int .i64 (n : Int), .string s] w fun e w' => e = .returned (.int .i64 0) ∧ PtAt S x (parT T n (ls s)) w' ∧ Foot S w w' := by
  obtain ⟨rb, h⟩ := h
  obtain ⟨hr1, hr2⟩ := h.ok.bd
  have HM := Lib.hid h.m
  have HH := Lib.hid h
  have HL := Lib.hid (ls_size s)
  have c0 := h.c.cell 0 rfl
  have HP := Lib.hid (show parT T n (ls s) = layT T ((191 + n) * T.R) (ls s) from rfl)
  obtain ⟨R, hR⟩ : ∃ R, T.R = R := ⟨_, rfl⟩
  have HR := Lib.hid hR
  rw [hR] at hr1 hr2 hs c0 HP
  have hb : ((s.size : Int) == (R : Int)) = true := by rw [beq_iff_eq]; omega
  have HSR := Lib.hid hs
  obtain ⟨c, hc⟩ : ∃ c, 191 + n = c := ⟨_, rfl⟩
  have hcI : 191 + (n : Int) = (c : Int) := by omega
  rw [hc] at HP
  have hc255 : c < 255 := by omega
  have hnI : ¬ ((n : Int) < 0) := by omega
  have hnJ : ¬ (64 ≤ (n : Int)) := by omega
  clear h hR hs hc
  have wr1 := wrapI (a := (c : Int)) (by omega) (by omega)
  go_enter Try.func19, Try.ntmps19
  go_wp2
  clear c0 hb
  go_loopw [29] (fun i wr => tputRel S x rb T (c * R) s w i wr) (fun i _ => s.size - (intOf i).toNat)
  case atStart => exact ⟨0, by omega, rfl, by rw [List.take_zero, layT_nil]; exact HH.out, Foot.refl S w⟩
  case round =>
    obtain ⟨k, hk, rfl, hin, hf⟩ := hrel
    have HIN := Lib.hid hin
    have HF := Lib.hid hf
    clear hin hf
    by_cases hlt : k < s.size
    · have hkI : (k : Int) < (s.size : Int) := by omega
      have g := ls_get s k hlt
      have HX := Lib.hid (layT_next T (c * R) (l := ls s) (k := k) (by rw [← HL.out]; exact hlt))
      obtain ⟨y, hy⟩ : ∃ y, cf (ls s) k = y := ⟨_, rfl⟩
      rw [hy] at g HX
      obtain ⟨T1, hT1⟩ : ∃ T1, layT T (c * R) ((ls s).take k) = T1 := ⟨_, rfl⟩
      rw [hT1] at HX HIN
      have HR1 := Lib.hid (show T1.R = R by rw [← hT1]; exact HR.out)
      have hkR : k < R := by have := HSR.out; omega
      have hpR : c * R + k < 255 * R := at_lt hkR hc255
      have HQ := Lib.hid (show cp R (c * R + k) = k * 765 + c * 3 from cp_at hkR)
      have wr5 := wrapI (a := (k : Int) + 1) (by omega) (by omega)
      have HPL := Lib.hid (fun (W : World) => tbplace_any c k W)
      have HCL := Lib.hid (fun (W : World) (e : Eqv wr W) => tbcell_any (HIN.out.eqv e) (c := c) (r := k) hc255 (by rw [HR1.out]; exact hkR))
      clear hy hT1
      go_wp2
      refine wp_draw_tail 9 (by kernel_rfl) [.pointer (some ⟨x, 0, none⟩), .int .i64 (n : Int), .int .i64 (c : Int), .int .i64 (k : Int), .complex .f64 (fl c) (fl k), .pointer (some ⟨rb, k * 765 + c * 3, none⟩), .string s, .int .i64 (k : Int), .int .u8 (y.toNat : Int)]
        (fun _ W => Eqv wr W) rfl (by kernel_rfl) (by kernel_rfl) (fin := ?fin0) ?hfin0 (Eqv.drew wr) ?each0 ?hend0
      case hfin0 => simp [seqA, dstOf, Act.put]; rfl
      case each0 =>
        refine ⟨?_, ?_, ?_, ?_, ?_, ?_, ?_, ?_, ?_, trivial⟩
        all_goals intro L w5 h0 hd hs hw
        all_goals unfold Does
        all_goals go_simp
        all_goals first | exact fun L' k => hw | ((with_reducible refine (HPL.out w5).mono ?_); rintro _ w6 ⟨rfl, rfl⟩; exact ⟨_, rfl, rfl, fun _ _ => hw⟩) | ((with_reducible refine (HCL.out w5 hw).mono ?_); rintro _ w6 ⟨rfl, rfl⟩; exact ⟨_, rfl, rfl, fun _ _ => hw⟩)
      case hend0 =>
      intro L w5 hL hw
      simp only [List.drop_succ_cons, List.drop_zero]
      have h5 := HIN.out.eqv hw
      have hp2 : c * R + k < 255 * T1.R := by rw [HR1.out]; exact hpR
      have hcl := cp_lt (R := T1.R) (by rw [HR1.out]; omega) hp2
      have HST := Lib.hid (tbset_any (b := (y.toNat : Int)) (h5.v _ hp2) (h5.i _ hp2) (h5.f _ (by omega)) (h5.f _ (by omega)))
      have h6 := h5.setBI hp2 y
      have HF6 := Lib.hid (PtIn.same2 (o1 := cp T1.R (c * R + k)) (o2 := cp T1.R (c * R + k) + 1) (v1 := u8V y) (v2 := .bool true) HF.out hw HM.out.2)
      have hcq : cp T1.R (c * R + k) = k * 765 + c * 3 := by rw [HR1.out]; exact HQ.out
      rw [hcq] at HST HF6 h6
      have HH6 := Lib.hid h6
      clear h5 h6 hL hw hcl hp2 hcq
      go_wp2_with (go_at_call 33; refine HST.out.mono ?_; rintro _ w6 ⟨rfl, rfl⟩)
      go_roundw
      case rel => exact ⟨k + 1, by omega, by go_num, by rw [HX.out]; exact HH6.out, HF6.out⟩
      case measure => simp [intOf]; omega
    · obtain rfl : k = s.size := by omega
      have hkI : ¬ ((s.size : Int) < (s.size : Int)) := by omega
      have HZ := Lib.hid (show PtAt S x (parT T n (ls s)) wr from ⟨rb, by have := HIN.out; rw [HL.out, List.take_length] at this; rw [HP.out]; exact this⟩)
      go_wp2
      go_ret
      exact ⟨rfl, HZ.out, HF.out⟩
/-- Pad. -/
theorem tbpad_nil (n : Int) (w : World) : Calls Try.prog 21 #[.pointer none, .int .i64 n] w fun e w' => e = .returned (.int .i64 2) ∧ w = w' := by
  go_enter Try.func21, Try.ntmps21
  go_wp2
  go_ret
  exact ⟨rfl, rfl⟩
theorem tbpad_range {x : Nat} {n : Int} (hn : ¬ (0 ≤ n ∧ n ≤ 191)) (w : World) : Calls Try.prog 21 #[.pointer (some ⟨x, 0, none⟩), .int .i64 n] w fun e w' => e = .returned (.int .i64 15) ∧ w = w' := by
  by_cases h1 : n < 0
  · clear hn
    go_enter Try.func21, Try.ntmps21
    go_wp2
    go_ret
    exact ⟨rfl, rfl⟩
  · have h2 : 191 < n := by omega
    clear hn
    go_enter Try.func21, Try.ntmps21
    go_wp2
    go_ret
    exact ⟨rfl, rfl⟩
def tpadRel (S : Nat → Prop) (x rb : Nat) (T : Tb) (lo : Nat) (w : World) (v : Value) (wr : World) : Prop := ∃ i : Nat, lo ≤ i ∧ i ≤ 191 * T.R ∧ v = .int .i64 (i : Int) ∧ PtIn S x rb (padTo T lo i) wr ∧ Foot S w wr
set_option maxHeartbeats 1600000 in
theorem tbpad_ok {S : Nat → Prop} {x : Nat} {T : Tb} {w : World} (h : PtAt S x T w) {k : Nat} (hk : k ≤ 191) : Calls Try.prog 21 #[.pointer (some ⟨x, 0, none⟩), .int .i64 (k : Int)] w fun e w' => e = .returned (.int .i64 0) ∧ PtAt S x (padT T k) w' ∧ Foot S w w' := by
  obtain ⟨rb, h⟩ := h
  obtain ⟨hr1, hr2⟩ := h.ok.bd
  have HM := Lib.hid h.m
  have HP := Lib.hid (show padT T k = padTo T ((191 - k) * T.R) (191 * T.R) from rfl)
  have HH := Lib.hid h
  have HC := Lib.hid h.c
  have HSZ := Lib.hid (fun (T1 : Tb) (e : T1.R = T.R) (W : World) (g : PtIn S x rb T1 W) => show Calls Try.prog 28 #[.pointer (some ⟨x, 0, none⟩)] W fun e w' => e = .returned (.int .i64 (191 * (T.R : Int))) ∧ W = w' by
    have := tbsize_any (S := S) (T := T1) ⟨rb, g⟩; rwa [e] at this)
  have hlo : (191 - k) * T.R ≤ 191 * T.R := Nat.mul_le_mul_right _ (by omega)
  have hkR : k * T.R ≤ 191 * T.R := Nat.mul_le_mul_right _ hk
  have hsum : k * T.R + (191 - k) * T.R = 191 * T.R := by rw [← Nat.add_mul, show k + (191 - k) = 191 by omega]
  obtain ⟨R, hR⟩ : ∃ R, T.R = R := ⟨_, rfl⟩
  have HR := Lib.hid hR
  rw [hR] at hr1 hr2 hlo HP HC hkR hsum HSZ
  have hm : (k : Int) * (R : Int) = ((k * R : Nat) : Int) := by simp
  obtain ⟨m, hmm⟩ : ∃ m, k * R = m := ⟨_, rfl⟩
  rw [hmm] at hm hkR hsum
  obtain ⟨lo, hlo2⟩ : ∃ lo, (191 - k) * R = lo := ⟨_, rfl⟩
  rw [hlo2] at hlo HP hsum
  have HSZ0 := Lib.hid (fun (W : World) (e : Eqv w W) => HSZ.out T HR.out W (HH.out.eqv e))
  clear h hR hlo2 hmm
  have wr0 := wrapI (a := (m : Int)) (by omega) (by omega)
  have hsI : 191 * (R : Int) - (m : Int) = (lo : Int) := by omega
  have wr2 := wrapI (a := (lo : Int)) (by omega) (by omega)
  have hkI : ¬ ((k : Int) < 0) := by omega
  have hkJ : ¬ (191 < (k : Int)) := by omega
  clear hsum
  go_enter Try.func21, Try.ntmps21
  go_wp2
  refine wp_draw (by kernel_rfl) [.pointer (some ⟨x, 0, none⟩), .int .i64 (191 * (R : Int)), .int .i64 (k : Int), .pointer (some ⟨x, 0, none⟩), .pointer (some ⟨x, 0, none⟩), .pointer (some ⟨x, 0, none⟩), .slice (some ⟨rb, 0, none⟩) R R, .int .i64 (R : Int), .int .i64 (m : Int), .int .i64 (lo : Int), .int .i64 (lo : Int)]
    (fun _ W => Eqv w W) rfl (by kernel_rfl) (fin := ?fin0) ?hfin0 (Eqv.drew w) ?each0 ?hend0
  case hfin0 => simp [seqA, dstOf, Act.put]; rfl
  case each0 =>
    refine ⟨?_, ?_, ?_, ?_, ?_, ?_, ?_, ?_, ?_, ?_, ?_, trivial⟩
    all_goals intro L w5 h0 hd hs hw
    all_goals unfold Does
    all_goals have c0 := (HC.out.eqv hw).cell 0 rfl
    all_goals go_simp
    all_goals first | exact fun L' k => hw | ((with_reducible refine (HSZ0.out w5 hw).mono ?_); rintro _ w6 ⟨rfl, rfl⟩; exact ⟨_, rfl, rfl, fun _ _ => hw⟩)
  case hend0 =>
  intro L w5 hL hw
  have HW5 := Lib.hid hw
  clear hL hw hm hsI
  go_wp2
  go_loopw [5] (fun i wr => tpadRel S x rb T lo w i wr) (fun i _ => 191 * R - (intOf i).toNat)
  case atStart => exact ⟨lo, Nat.le_refl _, by rw [HR.out]; exact hlo, rfl, by rw [padTo_none]; exact HH.out.eqv HW5.out, Foot.eqv HW5.out⟩
  case round =>
    obtain ⟨i, hi1, hi2, rfl, hin, hf⟩ := hrel
    rw [HR.out] at hi2
    have HIN := Lib.hid hin
    have HF := Lib.hid hf
    have HX := Lib.hid (padTo_next T hi1)
    have HRP := Lib.hid (show (padTo T lo i).R = R from HR.out)
    have HS0 := Lib.hid (HSZ.out _ HRP.out wr hin)
    clear hin hf
    by_cases hlt : i < 191 * R
    · have hiI : (i : Int) < 191 * (R : Int) := by omega
      have hi255 : i < 255 * (padTo T lo i).R := by rw [HRP.out]; omega
      have wr3 := wrapI (a := (i : Int) + 1) (by omega) (by omega)
      have HDA := Lib.hid (tbdata_any HIN.out (n := i) hi255)
      have HB := Lib.hid (show cp (padTo T lo i).R i + 3 ≤ (padTo T lo i).R * 765 from cp_lt (by rw [HRP.out]; omega) hi255)
      have HI5 := Lib.hid hi255
      obtain ⟨q, hq⟩ : ∃ q, cp (padTo T lo i).R i = q := ⟨_, rfl⟩
      rw [hq] at HDA HB
      have HQ := Lib.hid hq
      clear hq hi255
      go_wp2_with (first | (go_at_call 28; refine HS0.out.mono ?_; rintro _ w6 ⟨rfl, rfl⟩) | (go_at_call 29; refine HDA.out.mono ?_; rintro _ w6 ⟨rfl, he⟩; have d1 := (HIN.out.eqv he).i i HI5.out; have d2 := (HIN.out.eqv he).f (q + 1) (by have := HB.out; omega); have HS := Lib.hid ((HIN.out.eqv he).setI (k := i) HI5.out); have HF6 := Lib.hid ((HF.out.same (Foot.eqv he)).same (Foot.setCell (p := ⟨rb, q + 1, none⟩) (v := .bool true) HM.out.2)); rw [HQ.out] at d1 HS; clear he))
      go_roundw
      case rel => exact ⟨i + 1, by omega, by rw [HR.out]; omega, by go_num, by rw [HX.out]; exact HS.out, HF6.out⟩
      case measure => simp [intOf]; omega
    · obtain rfl : i = 191 * R := by omega
      have hiI : ¬ (191 * (R : Int) < 191 * (R : Int)) := by omega
      have HZ := Lib.hid (show PtAt S x (padT T k) wr from ⟨rb, by rw [HP.out]; exact HIN.out⟩)
      go_wp2_with (go_at_call 28; refine HS0.out.mono ?_; rintro _ w6 ⟨rfl, rfl⟩)
      go_ret
      exact ⟨rfl, HZ.out, HF.out⟩
/-- At. -/
theorem tbat_nil (a : Int) (w : World) : Calls Try.prog 11 #[.pointer none, .int .i64 a] w fun e w' => e = .returned (.tuple #[.int .u8 0, .bool false]) ∧ w = w' := by
  go_enter Try.func11, Try.ntmps11
  go_wp2
  go_ret2
  exact ⟨rfl, rfl⟩
theorem tbat_no {S : Nat → Prop} {x : Nat} {T : Tb} {w : World} (h : PtAt S x T w) {a : Int} (ha : ¬ (0 ≤ a ∧ a < 191 * (T.R : Int))) : Calls Try.prog 11 #[.pointer (some ⟨x, 0, none⟩), .int .i64 a] w fun e w' => e = .returned (.tuple #[.int .u8 0, .bool false]) ∧ w = w' := by
  have HSZ := Lib.hid (tbsize_any h)
  obtain ⟨R, hR⟩ : ∃ R, T.R = R := ⟨_, rfl⟩
  rw [hR] at ha HSZ
  clear h hR
  by_cases h1 : a < 0
  · clear ha
    go_enter Try.func11, Try.ntmps11
    go_wp2
    go_ret2
    exact ⟨rfl, rfl⟩
  · have h2 : 191 * (R : Int) ≤ a := by omega
    clear ha
    go_enter Try.func11, Try.ntmps11
    go_wp2_with (go_at_call 28; refine HSZ.out.mono ?_; rintro _ w6 ⟨rfl, rfl⟩)
    go_ret2
    exact ⟨rfl, rfl⟩
theorem tbat_ok {S : Nat → Prop} {x : Nat} {T : Tb} {w : World} (h : PtAt S x T w) {a : Nat} (ha : a < 191 * T.R) : Calls Try.prog 11 #[.pointer (some ⟨x, 0, none⟩), .int .i64 (a : Int)] w fun e w' => e = .returned (.tuple #[.int .u8 ((T.B a).toNat : Int), .bool (T.Is a)]) ∧ Eqv w w' := by
  have HSZ := Lib.hid (tbsize_any h)
  obtain ⟨rb, h⟩ := h
  have HDA := Lib.hid (tbdata_any h (n := a) (by omega))
  have HV := Lib.hid (fun (W : World) (e : Eqv w W) => (h.eqv e).v a (by omega))
  have HI := Lib.hid (fun (W : World) (e : Eqv w W) => (h.eqv e).i a (by omega))
  obtain ⟨q, hq⟩ : ∃ q, cp T.R a = q := ⟨_, rfl⟩
  rw [hq] at HDA HV HI
  have haI : (a : Int) < 191 * (T.R : Int) := by omega
  obtain ⟨R, hR⟩ : ∃ R, T.R = R := ⟨_, rfl⟩
  rw [hR] at haI HSZ
  obtain ⟨y, hy⟩ : ∃ y, T.B a = y := ⟨_, rfl⟩
  obtain ⟨z, hz⟩ : ∃ z, T.Is a = z := ⟨_, rfl⟩
  rw [hy] at HV ⊢
  rw [hz] at HI ⊢
  have h1 : ¬ ((a : Int) < 0) := by omega
  have h2 : ¬ (191 * (R : Int) ≤ (a : Int)) := by omega
  clear h hR hq hy hz ha haI
  go_enter Try.func11, Try.ntmps11
  go_wp2_with (first | (go_at_call 28; refine HSZ.out.mono ?_; rintro _ w6 ⟨rfl, rfl⟩) | (go_at_call 29; refine HDA.out.mono ?_; rintro _ w6 ⟨rfl, he⟩))
  refine wp_draw (by kernel_rfl) [.pointer (some ⟨rb, q, none⟩), .pointer (some ⟨rb, q, none⟩), .pointer (some ⟨rb, q, none⟩), .int .u8 (y.toNat : Int), .pointer (some ⟨rb, q, none⟩), .pointer (some ⟨rb, q, none⟩), .pointer (some ⟨rb, q + 1, none⟩), .bool z, .int .u8 (y.toNat : Int), .bool z]
    (fun _ W => Eqv w W) rfl (by kernel_rfl) (fin := ?fin0) ?hfin0 (he.trans (Eqv.drew w6)) ?each0 ?hend0
  case hfin0 => simp [seqA, dstOf, Act.put]; rfl
  case each0 =>
    refine ⟨?_, ?_, ?_, ?_, ?_, ?_, ?_, ?_, ?_, ?_, trivial⟩
    all_goals intro L w5 h0 hd hs hw
    all_goals unfold Does
    all_goals have d0 := HV.out w5 hw
    all_goals have d1 := HI.out w5 hw
    all_goals go_simp
    all_goals first | exact fun L' k => hw
  case hend0 =>
  intro L w5 hL hw
  have HW5 := Lib.hid hw
  clear hL hw
  go_wp2
  go_ret2
  exact ⟨rfl, HW5.out⟩
end Go.Proofs.Ytpkidopnkofccaa
