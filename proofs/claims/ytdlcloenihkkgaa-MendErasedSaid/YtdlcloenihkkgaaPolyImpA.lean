/-
  What the iterator that goes backward over the powers below a number yields, and what Degree, Clone and Trim of package poly answer: for texts of up to a million bytes; the memory that was there stays.
-/
import Derived.RangeFuncNested
import Derived.RangeFuncBound
import Derived.RangeFuncCalls
import Derived.RangeFuncLeaves
import Derived.RangeFuncFrom
import Derived.Shelf.Abstract
import Derived.Shelf.RegionOpen
import Derived.WalkKit
import Derived.OwnWalkIn
import Derived.TacticsInMore
import Derived.LoopNIn
import Derived.LoopIn
import Derived.Test.YtdlcloenihkkgaaPolyRefB
namespace Go.Proofs.Ytdlcloenihkkgaa
open Go.RowKit Go.Shelf Gf
set_option maxRecDepth 100000
attribute [local go_sem] Oper.semAt_some

/-- From the highest place down, k of them. -/
def dn (N k : Nat) : List Nat := (List.range k).map (fun i => N - 1 - i)
theorem dn_length (N k : Nat) : (dn N k).length = k := by simp [dn]
theorem dn_succ (N k : Nat) : dn N (k + 1) = dn N k ++ [N - 1 - k] := by simp [dn, List.range_succ]
theorem dn_prefix {N k : Nat} (h : k ≤ N) : dn N k <+: dn N N := by
  refine ⟨((List.range N).drop k).map (fun i => N - 1 - i), ?_⟩
  rw [dn, dn, ← List.map_append]
  congr 1
  rw [show List.range k = (List.range N).take k by rw [List.take_range, Nat.min_eq_left h], List.take_append_drop]
/-- What a round keeps: the box in which the number lies. -/
def KpB (Bn : Nat) (W W' : World) : Prop := W'.heap[Bn]? = W.heap[Bn]?
def encB {N : Nat} (x : Fin N) : Array Value := #[.int .i64 (x.val : Int)]
def vals {N : Nat} (l : List (Fin N)) : List Nat := l.map (·.val)
theorem vals_snoc {N : Nat} (l : List (Fin N)) (x : Fin N) : vals (l ++ [x]) = vals l ++ [x.val] := by simp [vals]
def itRel (N : Nat) (Bn : Nat) (J : List (Fin N) → World → Prop) (i : Value) (wr : World) : Prop :=
  wr.cell? ⟨Bn, 0, none⟩ = some (.int .i64 (N : Int)) ∧ ((i = .int .i64 (-1) ∧ ∃ pre, vals pre = dn N N ∧ J pre wr) ∨ ∃ m : Nat, i = .int .i64 (m : Int) ∧ m < N ∧ ∃ pre, vals pre = dn N (N - 1 - m) ∧ J pre wr)
set_option maxRecDepth 100000 in
set_option maxHeartbeats 2000000 in
theorem back1_in (F : Fence) (n : Nat) (h6 : F.fn 76) (hro : F.round = none) (hn : 1 ≤ n) (l Bn : Nat) (N : Nat) (hp : N ≤ 1000000) (J Jx : List (Fin N) → World → Prop)
    (hY : ∀ pre x W, J pre W → pre.length < N → YieldAt F (n - 1) Try.prog l (encB x) W fun e W' =>
      (e = .returned (.bool true) ∧ J (pre ++ [x]) W' ∧ KpB Bn W W') ∨ (e = .returned (.bool false) ∧ Jx (pre ++ [x]) W'))
    (W : World) (hBn : W.cell? ⟨Bn, 0, none⟩ = some (.int .i64 (N : Int))) (h0 : J [] W) :
    CallsIn F n Try.prog 76 #[.func (.yield l) #[] #[], .pointer (some ⟨Bn, 0, none⟩)] W fun e W' => (∃ v, e = .returned v) ∧
      ((∃ ys, vals ys = dn N N ∧ J ys W') ∨ (∃ pre, vals pre <+: dn N N ∧ Jx pre W')) := by
  refine callsIn_of_wp Try.func76 rfl h6 ?_ hro
  simp only [Try.ntmps76, List.size_toArray, List.length_cons, List.length_nil, Nat.reduceAdd, Nat.reduceSub, Array.replicate_succ, Array.replicate_zero, List.push_toArray, List.append_toArray, List.nil_append, List.cons_append]
  gi_wp2
  gi_loopw [3] (fun i wr => itRel N Bn J i wr) (fun i _ => (intOf i + 1).toNat)
  case atStart =>
    refine ⟨hBn, ?_⟩
    by_cases hz : N = 0
    · exact .inl ⟨by simp [hz], [], by rw [hz]; rfl, h0⟩
    · exact .inr ⟨N - 1, by congr 1; omega, by omega, [], by rw [Nat.sub_self]; rfl, h0⟩
  case round =>
    obtain ⟨hc, ⟨rfl, pre, hpre, hJ⟩ | ⟨m, rfl, hm, pre, hpre, hJ⟩⟩ := hrel
    · gi_wp2
      go_end0
      exact ⟨⟨_, rfl⟩, .inl ⟨_, hpre, hJ⟩⟩
    · obtain ⟨fn, tmps, assign, body, hy, hR⟩ := hY pre ⟨m, hm⟩ wr hJ (by have := congrArg List.length hpre; rw [dn_length, vals, List.length_map] at this; omega)
      unfold encB at hy
      dsimp only at hy
      have HN := Lib.hid (show vals (pre ++ [⟨m, hm⟩]) = dn N (N - m) by
        rw [vals_snoc, hpre, show N - m = (N - 1 - m) + 1 by omega, dn_succ]; congr 2; show m = _; omega)
      gi_wp2
      refine hR.mono ?_
      rintro e W3 (⟨rfl, hJ3, hk3⟩ | ⟨rfl, hJx3⟩)
      · have hc3 : W3.cell? ⟨Bn, 0, none⟩ = some (.int .i64 (N : Int)) := (World.cell?_of_block (w := wr) (a := ⟨Bn, 0, none⟩) (show W3.heap[Bn]? = wr.heap[Bn]? from hk3)).trans hc
        gi_wp2
        go_roundw
        case rel =>
          refine ⟨hc3, ?_⟩
          have hn := HN.out
          by_cases hz : m = 0
          · subst hz; exact .inl ⟨rfl, _, hn, hJ3⟩
          · exact .inr ⟨m - 1, by congr 1; omega, by omega, _, by rw [show N - 1 - (m - 1) = N - m by omega]; exact hn, hJ3⟩
        case measure => simp [intOf]
      · gi_wp2
        refine bodyPost_ret (results_none rfl _ _ _) rfl ?_
        exact ⟨⟨_, rfl⟩, .inr ⟨_, by rw [HN.out]; exact dn_prefix (by omega), hJx3⟩⟩
theorem back_in (F : Fence) (n : Nat) (h5 : F.fn 62) (hro : F.round = none) (N : Int) (w : World) :
    CallsIn F n Try.prog 62 #[.int .i64 N] w fun e w' => e = .returned (.func (.func 76) #[] #[.pointer (some ⟨w.heap.size, 0, none⟩)]) ∧ w' = w.alloc (.cells #[.int .i64 N] 3) := by
  refine callsIn_of_wp Try.func62 rfl h5 ?_ hro
  simp only [Try.ntmps62, List.size_toArray, List.length_cons, List.length_nil, Nat.reduceAdd, Nat.reduceSub, Array.replicate_succ, Array.replicate_zero, List.push_toArray, List.append_toArray, List.nil_append, List.cons_append]
  gi_wp2
  go_ret
  exact ⟨rfl, rfl⟩
theorem back_stops (F : Fence) (n : Nat) (h6 : F.fn 76) (hro : F.round = none) (hn : 1 ≤ n) (Bn : Nat) (N : Nat) (hp : N ≤ 1000000) (w : World) (hBn : Bn < w.heap.size)
    (hc : w.cell? ⟨Bn, 0, none⟩ = some (.int .i64 (N : Int))) :
    SeqStopsK F n Try.prog 76 #[.pointer (some ⟨Bn, 0, none⟩)] (encB (N := N)) (KpB Bn) (fun ys => vals ys = dn N N) (fun pre => vals pre <+: dn N N) N w := fun l J Jx W hW _ _ hY h0 =>
  back1_in F n h6 hro hn l Bn N hp J Jx hY W ((hW.cell (p := ⟨Bn, 0, none⟩) hBn).trans hc) h0
theorem kpB_t {Bn : Nat} {A B C : World} (h : KpB Bn A B) (k : KpB Bn B C) : KpB Bn A C := Eq.trans k h
theorem kpB_b {Bn : Nat} {w : World} (hn : Bn < w.heap.size) (W : World) (l : Nat) (o o' : Obj) (hl : w.heap.size ≤ l) (_ : W.heap[l]? = some o) (_ : o.isCells = false) (_ : o.isWalk = false) : KpB Bn W (W.putObj l o') := by
  have := belowK_b (n₀ := w.heap.size) (w := w) (Nat.le_refl _) W l o o' hl (by assumption) (by assumption) (by assumption)
  exact this.block Bn hn
theorem cell_new1 (W : World) (v : Value) (t : TypeId) : (W.alloc (.cells #[v] t)).cell? ⟨W.heap.size, 0, none⟩ = some v ∧ (W.alloc (.cells #[v] t)).frozen? ⟨W.heap.size, 0, none⟩ = false :=
  ⟨by rw [World.cell?_alloc_new]; rfl, World.frozen?_alloc_new _ _ _ _⟩
theorem cell_alloc1 {W : World} {a : Addr} {v : Value} (o : Obj) (h : W.cell? a = some v) : (W.alloc o).cell? a = some v := cell_kept h (World.grownBy_alloc W o none) (fun r e => by cases e)
theorem frozen_alloc1 {W : World} {a : Addr} {v : Value} (o : Obj) (h : W.cell? a = some v) (hf : W.frozen? a = false) : (W.alloc o).frozen? a = false := (frozen_kept h (World.grownBy_alloc W o none) (fun r e => by cases e)).trans hf
theorem prefix_dn {N : Nat} {q : List Nat} {y : Nat} (hpre : q ++ [y] <+: dn N N) : q.length < N ∧ q = dn N q.length ∧ y = N - 1 - q.length := by
  have hlen := hpre.length_le
  rw [dn_length, List.length_append, List.length_singleton] at hlen
  have e : q ++ [y] = dn N (q.length + 1) := by
    have h1 := List.prefix_iff_eq_take.1 hpre
    have h2 := List.prefix_iff_eq_take.1 (dn_prefix (N := N) (k := q.length + 1) (by omega))
    rw [h1, h2, dn_length, List.length_append, List.length_singleton]
  rw [dn_succ] at e
  have e1 := List.append_inj' e rfl
  exact ⟨by omega, e1.1, by simpa using e1.2⟩
theorem deg_some {p : ByteArray} {N : Nat} (hN : N = p.size) {q : List (Fin N)} {y : Fin N} (hpre : vals (q ++ [y]) <+: dn N N) (hq : ∀ z ∈ q, cf (ls p) z.val = 0) (hy : cf (ls p) y.val ≠ 0) : (trim (ls p)).length = y.val + 1 := by
  rw [vals_snoc] at hpre
  obtain ⟨hlen, e1, ey⟩ := prefix_dn hpre
  have hl : (vals q).length = q.length := by simp [vals]
  have up : Upto (y.val + 1) (cf (ls p)) := fun i hi => by
    by_cases hn : i < N
    · have : i ∈ vals q := by
        rw [e1]; simp only [dn, List.mem_map, List.mem_range]
        exact ⟨N - 1 - i, by omega, by omega⟩
      obtain ⟨z, hz, rfl⟩ := List.mem_map.1 this
      exact hq z hz
    · exact cf_big (by rw [← ls_size]; omega)
  have le := trim_len_le up
  rcases Nat.lt_or_ge y.val (trim (ls p)).length with h | h
  · omega
  · exact absurd (trim_upto (ls p) y h) hy
theorem deg_none {p : ByteArray} {N : Nat} (hN : N = p.size) {ys : List (Fin N)} (he : vals ys = dn N N) (h : ∀ y ∈ ys, cf (ls p) y.val = 0) : trim (ls p) = [] :=
  trim_eq_nil fun n => by
    by_cases hn : n < N
    · have : n ∈ vals ys := by
        rw [he]; simp only [dn, List.mem_map, List.mem_range]
        exact ⟨N - 1 - n, by omega, by omega⟩
      obtain ⟨z, hz, rfl⟩ := List.mem_map.1 this
      exact h z hz
    · exact cf_big (by rw [← ls_size]; omega)
set_option maxRecDepth 100000 in
set_option maxHeartbeats 4000000 in
theorem deg_in (F : Fence) (n : Nat) (h4 : F.fn 49) (h5 : F.fn 62) (h6 : F.fn 76) (hro : F.round = none) (hn : 3 ≤ n) (p : ByteArray) (hp : p.size ≤ 1000000) (w : World) :
    CallsIn F n Try.prog 49 #[.string p] w fun e W' => e = .returned (.int .i64 (((trim (ls p)).length : Int) - 1)) ∧ Below w.heap.size w W' := by
  have h1 : 1 ≤ n := by omega
  refine callsIn_of_wp_marks Try.func49 rfl h4 ?_ hro
  simp only [Try.ntmps49, List.size_toArray, List.length_cons, List.length_nil, Nat.reduceAdd, Nat.reduceSub, Array.replicate_succ, Array.replicate_zero, List.push_toArray, List.append_toArray, List.nil_append, List.cons_append]
  gi_wp2_with (gi_at_call 62; refine (back_in F (n - 1) h5 hro _ _).mono ?_; rintro e w' ⟨rfl, rfl⟩)
  have c0 := cell_new1 w (.string p) 9
  have c1 := cell_new1 (w.alloc (.cells #[.string p] 9)) (.int .i64 0) 3
  have c2 := cell_new1 ((w.alloc (.cells #[.string p] 9)).alloc (.cells #[.int .i64 0] 3)) (.int .i64 (p.size : Int)) 3
  simp only [World.size_alloc] at c1 c2
  have hB0 : Below w.heap.size w (((w.alloc (.cells #[.string p] 9)).alloc (.cells #[.int .i64 0] 3)).alloc (.cells #[.int .i64 (p.size : Int)] 3)) := (((Below.refl _ w).alloc (Nat.le_refl _) _).alloc (by simp) _).alloc (by simp; omega) _
  refine wpIn_rangeFunc_ownF hro h1 (gf := 76) (lb := #[.pointer (some ⟨w.heap.size + 1 + 1, 0, none⟩)]) rfl h6 (enters_of Try.func76 (by kernel_rfl) rfl)
    (back_stops F (n - 1) h6 hro (by omega) (w.heap.size + 1 + 1) p.size hp _ (by simp) c2.1) kpB_t (kpB_b (by simp)) (Below.refl _ _) (fun _ => rfl)
    (fun pre W => ((∀ y ∈ pre, cf (ls p) (Fin.val y) = 0) ∧ W.cell? ⟨w.heap.size, 0, none⟩ = some (.string p) ∧ W.cell? ⟨w.heap.size + 1, 0, none⟩ = some (.int .i64 0) ∧ W.frozen? ⟨w.heap.size + 1, 0, none⟩ = false) ∧ Below w.heap.size w W)
    (fun c pre W => (c = .ret ∧ ∃ (q : List (Fin p.size)) (y : Fin p.size), pre = q ++ [y] ∧ (∀ z ∈ q, cf (ls p) (Fin.val z) = 0) ∧ cf (ls p) y.val ≠ 0 ∧ W.cell? ⟨w.heap.size + 1, 0, none⟩ = some (.int .i64 (y.val : Int))) ∧ Below w.heap.size w W)
    (OwnFrom.and (Own.from (fun s A B row hs hg hr => ⟨hs.1, cell_kept hs.2.1 hg hr, cell_kept hs.2.2.1 hg hr, (frozen_kept hs.2.2.1 hg hr).trans hs.2.2.2⟩) _) (ownFrom_below (Nat.le_refl _) (by simp; omega)))
    (fun c => OwnFrom.and (Own.from (fun s A B row hs hg hr => by obtain ⟨hc, q, y, e1, e2, e3, e4⟩ := hs; exact ⟨hc, q, y, e1, e2, e3, cell_kept e4 hg hr⟩) _) (ownFrom_below (Nat.le_refl _) (by simp; omega)))
    ⟨⟨by simp, cell_alloc1 _ (cell_alloc1 _ c0.1), cell_alloc1 _ c1.1, frozen_alloc1 _ c1.1 c1.2⟩, hB0⟩
    (fun x => { tmps := #[.string p, .pointer (some ⟨w.heap.size, 0, none⟩), .pointer (some ⟨w.heap.size + 1, 0, none⟩), .int .i64 (x.val : Int), .string p, .int .i64 (p.size : Int), .func (.func 76) #[] #[.pointer (some ⟨w.heap.size + 1 + 1, 0, none⟩)], .int .i64 (x.val : Int), undef, undef, undef, undef, undef], defers := [] }) ?assign ?body ?done ?stop
  case assign =>
    intro l x W K hK
    unfold encB
    gi_wp2
    exact hK
  case body =>
    rintro l pre ⟨x, hxl⟩ W ⟨⟨hp0, hcp, hcr, hfr⟩, hB⟩ _
    have hgt := ls_get p x hxl
    have hx1 : (x : Int) < (p.size : Int) := by omega
    by_cases hx : cf (ls p) x = 0
    · have hb : (((cf (ls p) x).toNat : Int) != 0) = false := by rw [hx]; rfl
      gi_wp2
      exact ⟨KeepsOthers.refl _, rfl, ⟨fun y hy => (List.mem_append.1 hy).elim (hp0 y) (fun e => by simp at e; subst e; exact hx), hcp, hcr, hfr⟩, hB⟩
    · have hb : (((cf (ls p) x).toNat : Int) != 0) = true := by rw [bne_iff_ne]; intro e; exact hx (u8_zero e)
      gi_wp2
      exact ⟨KeepsOthers.setCell _ _ _, ⟨rfl, pre, ⟨x, hxl⟩, rfl, hp0, hx, World.cell?_setCell_same' _ _ _ (by rw [hcr]; rfl)⟩, hB.setCell (p := ⟨w.heap.size + 1, 0, none⟩) (by simp) _⟩
  case done =>
    rintro D ys W hD hys ⟨⟨hne, hcp, hcr, hfr⟩, hB⟩ hK
    gi_wp2
    have hK' := (KeepsOthers.setCell W ⟨w.heap.size + 1, 0, none⟩ (.int .i64 (-1))).same D _ hK rfl
    refine ⟨by simp, .inl ⟨_, _, rfl, run_takeDeferred hK', ?_⟩⟩
    have hc5 := cell_kept (World.cell?_setCell_same' W ⟨w.heap.size + 1, 0, none⟩ (.int .i64 (-1)) (by rw [hcr]; rfl)) (grownBy_putObj' _ D (.deferred none)) (fun r e => by cases e; exact ⟨_, hK', rfl⟩)
    refine ⟨.int .i64 (-1), ?_, by rw [deg_none rfl hys hne]; rfl, (hB.setCell (p := ⟨w.heap.size + 1, 0, none⟩) (by simp) _).trans (belowK_b (w := w) (Nat.le_refl _) _ D _ _ (by simp at hD; omega) hK' rfl rfl)⟩
    simp [results, Try.f49, go_sem, hc5]
  case stop =>
    rintro D c pre W hD hpre ⟨⟨rfl, q, y, rfl, hq, hy, hcr⟩, hB⟩ hK
    gi_wp2
    refine ⟨by simp, .inl ⟨_, _, rfl, run_takeDeferred hK, ?_⟩⟩
    have hc5 := cell_kept hcr (grownBy_putObj' _ D (.deferred none)) (fun r e => by cases e; exact ⟨_, hK, rfl⟩)
    refine ⟨.int .i64 (y.val : Int), ?_, by rw [deg_some rfl hpre hq hy]; congr 2; omega, hB.trans (belowK_b (w := w) (Nat.le_refl _) W D _ _ (by simp at hD; omega) hK rfl rfl)⟩
    simp [results, Try.f49, go_sem, hc5]
theorem pdeg_big (w0 : World) (p : ByteArray) (w : World) (hp : p.size ≤ 1000000) (hk : Keeps w0 w) :
    Calls Try.prog 49 #[.string p] w fun e w' => e = .returned (.int .i64 (((trim (ls p)).length : Int) - 1)) ∧ Keeps w0 w' :=
  (callsIn_wide (n := 3)).1 ((deg_in Fence.wide 3 trivial trivial trivial rfl (by omega) p hp w).mono fun _ _ h => ⟨h.1, hk.trans h.2⟩)
end Go.Proofs.Ytdlcloenihkkgaa
