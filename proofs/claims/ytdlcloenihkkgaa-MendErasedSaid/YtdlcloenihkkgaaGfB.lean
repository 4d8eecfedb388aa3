/-
  What New makes, and what a field's methods read of it: for any numbers; the memory that was there stays.
-/
import Derived.Test.YtdlcloenihkkgaaGfA
import Derived.RegionTactic
import Derived.ChangeAlike
import Derived.Deep.Draws
import Derived.Deep.QuietTactic
import Derived.BigQuiet
import Derived.WalkSmall
namespace Go.Proofs.Ytdlcloenihkkgaa
open Go.RowKit Gf
set_option maxRecDepth 100000
def zc : Array Value := Array.replicate 766 (.int .u8 0)
theorem built_zc : Try.prog.built 62 [] = some zc := by kernel_rfl
theorem wpList_zc {ops : Array Oper} {rest : List Oper} {o : Oper} {a : Act} {w : World} {Q : Exit → Act → World → Prop} (hg : o.guard = none) (ho : o.op = .build 62 #[])
    (h : wpList Try.prog ops Q rest (a.put o.dst (.agg zc)) w) : wpList Try.prog ops Q (o :: rest) a w := by
  have e : (Try.prog.built 62 ((#[] : Array (Nat × Operand)).map fun (i, x) => (i, a.eval x)).toList) = some zc := by simpa using built_zc
  refine wpList_build hg 62 #[] ho (by rw [e]; rfl) ?_
  rw [e]; exact h

/-- What the cells of block b hold behind k rounds. -/
structure TabW (b k : Nat) (W : World) : Prop where
  ex : ∀ i, i < 766 → ∃ v, W.cell? ⟨b, i, none⟩ = some v
  fz : ∀ i, W.frozen? ⟨b, i, none⟩ = false
  lo : ∀ i, i < k → W.cell? ⟨b, i, none⟩ = some (.int .u8 (expN i : Nat))
  hi : ∀ i, i < k → W.cell? ⟨b, i + 255, none⟩ = some (.int .u8 (expN i : Nat))
  lg : ∀ i, i < k → W.cell? ⟨b, 510 + expN i, none⟩ = some (.int .u8 (i : Nat))
theorem set_same {W : World} {a : Addr} {v u : Value} (h : W.cell? a = some u) : (W.setCell a v).cell? a = some v := World.cell?_setCell_same _ _ _ h
theorem set_other {W : World} {b i j : Nat} {v : Value} (h : i ≠ j) : (W.setCell ⟨b, i, none⟩ v).cell? ⟨b, j, none⟩ = W.cell? ⟨b, j, none⟩ :=
  World.cell?_setCell_other _ _ _ _ (by intro e; exact h (congrArg Addr.off e))
theorem zc_some {i : Nat} (h : i < 766) : zc[i]? = some (.int .u8 0) := by simp [zc, h]
theorem TabW.zero (w : World) : TabW w.heap.size 0 (w.alloc (.cells zc 62)) :=
  ⟨fun i hi => ⟨.int .u8 0, by rw [World.cell?_alloc_new]; exact zc_some hi⟩, fun i => by simp, by omega, by omega, by omega⟩
theorem set_ex {W : World} {b i : Nat} {v : Value} (h : ∀ i, i < 766 → ∃ v, W.cell? ⟨b, i, none⟩ = some v) : ∀ j, j < 766 → ∃ u, (W.setCell ⟨b, i, none⟩ v).cell? ⟨b, j, none⟩ = some u := by
  intro j hj
  obtain ⟨u, hu⟩ := h j hj
  by_cases e : i = j
  · subst e; exact ⟨v, set_same hu⟩
  · exact ⟨u, by rw [set_other e]; exact hu⟩
theorem TabW.succ {b k : Nat} {W : World} (h : TabW b k W) (hk : k < 255) {x : Nat} (hx : x = expN k) :
    TabW b (k + 1) (((W.setCell ⟨b, k, none⟩ (.int .u8 (x : Nat))).setCell ⟨b, k + 255, none⟩ (.int .u8 (x : Nat))).setCell ⟨b, 510 + x, none⟩ (.int .u8 (k : Nat))) := by
  subst hx
  have e1 := expN_lt k
  have e2 := expN_pos hk
  obtain ⟨v1, h1⟩ := h.ex k (by omega)
  obtain ⟨v2, h2⟩ := h.ex (k + 255) (by omega)
  obtain ⟨v3, h3⟩ := h.ex (510 + expN k) (by omega)
  refine ⟨set_ex (set_ex (set_ex h.ex)), fun i => by simp [h.fz], fun i hi => ?_, fun i hi => ?_, fun i hi => ?_⟩
  · rw [set_other (by omega), set_other (by omega)]
    by_cases e : i = k
    · subst e; exact set_same h1
    · rw [set_other (by omega)]; exact h.lo i (by omega)
  · have e3 := expN_lt i
    rw [set_other (by omega)]
    by_cases e : i = k
    · subst e; exact set_same (by rw [set_other (by omega)]; exact h2)
    · rw [set_other (by omega), set_other (by omega)]; exact h.hi i (by omega)
  · by_cases e : i = k
    · subst e; exact set_same (by rw [set_other (by omega), set_other (by omega)]; exact h3)
    · have e4 : expN i ≠ expN k := fun q => e (by rw [← log_exp (i := i) (by omega), q, log_exp hk])
      have e5 := expN_pos (i := i) (by omega)
      rw [set_other (by omega), set_other (by omega), set_other (by omega)]; exact h.lg i (by omega)

def nRel (w : World) (a n : Value) (wr : World) : Prop := ∃ (k x : Nat), k ≤ 255 ∧ x = expN (k % 255) ∧ a = .int .u8 (x : Nat) ∧ n = .int .i64 (k : Nat) ∧ TabW w.heap.size k wr ∧ Below w.heap.size w wr ∧ w.heap.size < wr.heap.size
/-- Block b holds the numbers. -/
structure FieldAt (b : Nat) (W : World) : Prop where
  old : b < W.heap.size
  ex : ∀ i, i < 510 → W.cell? ⟨b, i, none⟩ = some (.int .u8 (expN (i % 255) : Nat))
  lg : ∀ a, 1 ≤ a → a < 256 → W.cell? ⟨b, 510 + a, none⟩ = some (.int .u8 (logN a : Nat))
theorem TabW.field {b : Nat} {W : World} (h : TabW b 255 W) (hb : b < W.heap.size) : FieldAt b W := by
  refine ⟨hb, fun i hi => ?_, fun a ha ha2 => ?_⟩
  · by_cases e : i < 255
    · rw [Nat.mod_eq_of_lt e]; exact h.lo i e
    · have := h.hi (i - 255) (by omega)
      rw [show i - 255 + 255 = i by omega] at this
      rw [this, show i % 255 = i - 255 by omega]
  · have e := exp_log ha2 (by omega)
    have := h.lg (logN a) e.2
    rw [e.1] at this; exact this
theorem FieldAt.below {b : Nat} {W W' : World} (h : FieldAt b W) {B : Nat} (hB : b < B) (hb : Below B W W') : FieldAt b W' :=
  ⟨Nat.lt_of_lt_of_le h.old hb.size, fun i hi => by rw [hb.cell (p := ⟨b, i, none⟩) hB]; exact h.ex i hi, fun a h1 h2 => by rw [hb.cell (p := ⟨b, 510 + a, none⟩) hB]; exact h.lg a h1 h2⟩
def NewPost (w : World) (e : Ending) (w' : World) : Prop := e = .returned (.pointer (some ⟨w.heap.size, 0, none⟩)) ∧ FieldAt w.heap.size w' ∧ Below w.heap.size w w'
set_option maxRecDepth 100000 in
set_option maxHeartbeats 800000 in
theorem new_any (w : World) : Calls Try.prog 23 #[] w (NewPost w) := by
  go_enter Try.func23, Try.ntmps23
  go_wp2_with (with_reducible refine wpList_zc rfl rfl ?_)
  go_loopw [2, 6] (fun a n wr => nRel w a n wr) (fun _ n _ => 255 - (intOf n).toNat)
  case atStart => exact ⟨0, 1, by omega, rfl, rfl, rfl, TabW.zero w, (Below.refl _ _).alloc (Nat.le_refl _) _, by simp⟩
  case round =>
    obtain ⟨k, x, hk, hx, rfl, rfl, ht, hbel, hsz⟩ := hrel
    have hx1 : x < 256 := by rw [hx]; exact expN_lt _
    have HX := Lib.hid hx
    clear hx
    by_cases hlt : k < 255
    · generalize hb : w.heap.size = b at ht hsz ⊢
      have HB := Lib.hid hb
      clear hb
      obtain ⟨v1, hv1⟩ := ht.ex k (by omega)
      obtain ⟨v2, hv2⟩ := ht.ex (k + 255) (by omega)
      obtain ⟨v3, hv3⟩ := ht.ex (510 + x) (by omega)
      have f1 := ht.fz k
      have f2 := ht.fz (k + 255)
      have f3 := ht.fz (510 + x)
      have g2 : (wr.setCell ⟨b, k, none⟩ (.int .u8 (x : Nat))).cell? ⟨b, k + 255, none⟩ = some v2 := by rw [set_other (by omega)]; exact hv2
      have g3 : ((wr.setCell ⟨b, k, none⟩ (.int .u8 (x : Nat))).setCell ⟨b, k + 255, none⟩ (.int .u8 (x : Nat))).cell? ⟨b, 510 + x, none⟩ = some v3 := by rw [set_other (by omega), set_other (by omega)]; exact hv3
      go_wp2
      go_region
      go_wp2_with (go_at_call 38; refine (double_any _ _ (by omega) (by omega)).mono ?_; rintro e w' ⟨rfl, rfl⟩)
      go_roundw
      case rel =>
        have h := ht.succ hlt (x := x) (by rw [HX.out, Nat.mod_eq_of_lt hlt])
        have hB := HB.out
        subst hB
        refine ⟨k + 1, dbl x, by omega, ?_, ?_, by simp, ⟨h.ex, h.fz, h.lo, h.hi, h.lg⟩, ?_, ?_⟩
        · rw [HX.out, dbl_exp (Nat.mod_lt _ (by omega))]; congr 1; omega
        · unfold gd; rw [Int.toNat_natCast]
        · exact (((hbel.setCell (Nat.le_refl _) _).setCell (Nat.le_refl _) _).setCell (Nat.le_refl _) _).drew
        · simpa [World.setCell] using hsz
      case measure => simp [intOf]; omega
    · obtain rfl : k = 255 := by omega
      clear hlt hk
      go_wp2
      go_ret
      exact ⟨rfl, ht.field hsz, hbel⟩

def ge (n : Int) : Int := ((expN (n % 255).toNat : Nat) : Int)
def gl (a : Int) : Int := ((logN a.toNat : Nat) : Int)
def gi (a : Int) : Int := ((invN a.toNat : Nat) : Int)
theorem ge_bd (n : Int) : 1 ≤ ge n ∧ ge n ≤ 255 := by
  have h1 := expN_lt (n % 255).toNat
  have h2 := expN_pos (i := (n % 255).toNat) (by omega)
  unfold ge; omega
theorem gl_bd {a : Int} (h0 : 1 ≤ a) (h1 : a ≤ 255) : 0 ≤ gl a ∧ gl a ≤ 254 := by
  have := (exp_log (a := a.toNat) (by omega) (by omega)).2
  unfold gl; omega
theorem gi_bd (a : Int) : 0 ≤ gi a ∧ gi a ≤ 255 := by
  have := expN_lt ((255 - logN a.toNat) % 255)
  unfold gi invN; omega
theorem bcell {W w1 : World} (hb : Below W.heap.size W w1) : ∀ b o, b < W.heap.size → w1.cell? ⟨b, o, none⟩ = W.cell? ⟨b, o, none⟩ :=
  fun b o h => hb.cell (p := ⟨b, o, none⟩) h
theorem FieldAt.exp {b : Nat} {W : World} (h : FieldAt b W) (n : Int) : W.cell? ⟨b, (n % 255).toNat, none⟩ = some (.int .u8 (ge n)) := by
  rw [h.ex _ (by omega), Nat.mod_eq_of_lt (by omega)]; rfl
theorem FieldAt.log {b : Nat} {W : World} (h : FieldAt b W) {a : Int} (h0 : 1 ≤ a) (h1 : a ≤ 255) : W.cell? ⟨b, 510 + a.toNat, none⟩ = some (.int .u8 (gl a)) := by
  rw [h.lg _ (by omega) (by omega)]; rfl
theorem quiet_eq {P : Program} {f : FuncId} {args : Array Value} {w : World} {n : Nat} {v u : Value} (hv : v = u)
    (h : Calls P f args (w.drewN n) fun e w' => e = .returned v ∧ w.drewN n = w') : Calls P f args (w.drewN n) fun e w' => e = .returned u ∧ ∃ m, w' = w.drewN m :=
  h.mono fun _ _ h => ⟨by rw [h.1, hv], n, h.2.symm⟩
theorem vint {k : IntKind} {a b : Int} (h : a = b) : Value.int k a = .int k b := by rw [h]
set_option maxHeartbeats 800000 in
theorem fexp_any (b : Nat) (n : Int) (w : World) (hf : FieldAt b w) :
    Calls Try.prog 24 #[.pointer (some ⟨b, 0, none⟩), .int .i64 n] w fun e w' => e = .returned (.int .u8 (ge n)) ∧ Below w.heap.size w w' := by
  have hc := hf.exp n
  have h0 : 0 ≤ n % 255 := by omega
  have h1 : n % 255 < 255 := by omega
  generalize hm : n % 255 = m at *
  have HM := Lib.hid hm
  clear hm hf
  go_enter Try.func24, Try.ntmps24
  go_wp2
  go_quiet ((go_at_call 39; exact quiet_eq (vint HM.out) (round_any n _)))
  go_wp2
  go_ret
  exact ⟨rfl, below_drewN (Below.refl _ _) _⟩
theorem FieldAt.inv {b : Nat} {W : World} (h : FieldAt b W) {a : Int} (h0 : 1 ≤ a) (h1 : a ≤ 255) : W.cell? ⟨b, (255 - gl a).toNat, none⟩ = some (.int .u8 (gi a)) := by
  have := gl_bd h0 h1
  rw [h.ex _ (by omega), gi, invN]
  congr 5
  unfold gl; omega
set_option maxHeartbeats 800000 in
theorem finv_any (b : Nat) (a : Int) (w : World) (hf : FieldAt b w) (h0 : 1 ≤ a) (h1 : a ≤ 255) :
    Calls Try.prog 58 #[.pointer (some ⟨b, 0, none⟩), .int .u8 a] w fun e w' => e = .returned (.int .u8 (gi a)) ∧ Below w.heap.size w w' := by
  have hc := hf.log h0 h1
  have hd := hf.inv h0 h1
  obtain ⟨l0, l1⟩ := gl_bd h0 h1
  clear hf
  have hz : (a == 0) = false := by simp; omega
  go_enter Try.func58, Try.ntmps58
  go_wp2
  go_quiet (fail)
  go_wp2
  go_ret
  exact ⟨rfl, below_drewN (Below.refl _ _) _⟩
theorem FieldAt.mul {b : Nat} {W : World} (h : FieldAt b W) {x y : Int} (h0 : 1 ≤ x) (h1 : x ≤ 255) (h2 : 1 ≤ y) (h3 : y ≤ 255) : W.cell? ⟨b, (gl x + gl y).toNat, none⟩ = some (.int .u8 (gm x y)) := by
  have := gl_bd h0 h1
  have := gl_bd h2 h3
  rw [h.ex _ (by omega), gm, mul_ne (by omega) (by omega)]
  congr 5
set_option maxHeartbeats 800000 in
theorem fmul_any (b : Nat) (x y : Int) (w : World) (hf : FieldAt b w) (h0 : 1 ≤ x) (h1 : x ≤ 255) (h2 : 1 ≤ y) (h3 : y ≤ 255) :
    Calls Try.prog 59 #[.pointer (some ⟨b, 0, none⟩), .int .u8 x, .int .u8 y] w fun e w' => e = .returned (.int .u8 (gm x y)) ∧ Below w.heap.size w w' := by
  have hc := hf.log h0 h1
  have he := hf.log h2 h3
  have hd := hf.mul h0 h1 h2 h3
  obtain ⟨l0, l1⟩ := gl_bd h0 h1
  obtain ⟨l2, l3⟩ := gl_bd h2 h3
  clear hf
  have hz : (x == 0) = false := by simp; omega
  have hz : (y == 0) = false := by simp; omega
  have hs0 : 0 ≤ gl x + gl y := by omega
  have hs1 : gl x + gl y < 510 := by omega
  go_enter Try.func59, Try.ntmps59
  go_wp2
  go_quiet (fail)
  go_wp2
  go_ret
  exact ⟨rfl, below_drewN (Below.refl _ _) _⟩
end Go.Proofs.Ytdlcloenihkkgaa
