/-
  What split, lead, Find and Cut of package packet answer, for bytes of up to a million. The memory that was there stays.
-/
import Derived.RangeFuncNested
import Derived.RangeFuncBound
import Derived.RangeFuncCalls
import Derived.RangeFuncLeaves
import Derived.RangeFuncFrom
import Derived.Shelf.Abstract
import Derived.Shelf.RegionOpen
import Derived.WalkKit
import Derived.OwnWalkIn
import Derived.TacticsInMore
import Derived.LoopNIn
import Derived.LoopIn
import Derived.Test.YtikknojhoejciaaDoorPkMath
import Derived.Test.YtikknojhoejciaaDoorShelf
import Derived.Test.YtikknojhoejciaaDoorBase
namespace Go.Proofs.YtikknojhoejciaaDoor
open Go.RowKit Go.Shelf Gf Pk
set_option maxRecDepth 100000
attribute [local go_sem] Oper.semAt_some
/-- How many pieces there are, the last one being any that is not empty; and piece i. -/
def np (n : Nat) : Nat := (n + 187) / 188
def pcL (l : List UInt8) (i : Nat) : List UInt8 := (l.drop (188 * i)).take 188
def encP (l : List UInt8) {N : Nat} (x : Fin N) : Array Value := #[.string (st (pcL l x.val))]
def vlF {N : Nat} (l : List (Fin N)) : List Nat := l.map (·.val)
theorem vlF_snoc {N : Nat} (l : List (Fin N)) (x : Fin N) : vlF (l ++ [x]) = vlF l ++ [x.val] := by simp [vlF]
theorem range_prefix {k N : Nat} (h : k ≤ N) : List.range k <+: List.range N := ⟨(List.range N).drop k, by rw [show List.range k = (List.range N).take k by rw [List.take_range, Nat.min_eq_left h], List.take_append_drop]⟩
def szV : Value → Nat
  | .string s => s.size
  | _ => 0
def spRel (l : List UInt8) (N : Nat) (J : List (Fin N) → World → Prop) (v : Value) (wr : World) : Prop := ∃ (k : Nat) (pre : List (Fin N)), k ≤ N ∧ v = .string (st (l.drop (188 * k))) ∧ vlF pre = List.range k ∧ J pre wr
set_option maxHeartbeats 3200000 in
theorem spl1_in (n : Nat) (hn : 1 ≤ n) (l Bs : Nat) (s : ByteArray) (N : Nat) (hN : np s.size = N) (J Jx : List (Fin N) → World → Prop)
    (hY : ∀ pre x W, J pre W → pre.length < N → YieldAt Fence.wide (n - 1) Tryd.prog l (encP (ls s) x) W fun e W' =>
      (e = .returned (.bool true) ∧ J (pre ++ [x]) W' ∧ True) ∨ (e = .returned (.bool false) ∧ Jx (pre ++ [x]) W'))
    (W : World) (hB : W.cell? ⟨Bs, 0, none⟩ = some (.string s)) (h0 : J [] W) :
    CallsIn Fence.wide n Tryd.prog 48 #[.func (.yield l) #[] #[], .pointer (some ⟨Bs, 0, none⟩)] W fun e W' => (∃ v, e = .returned v) ∧
      ((∃ ys, vlF ys = List.range N ∧ J ys W') ∨ (∃ pre, vlF pre <+: List.range N ∧ Jx pre W')) := by
  have hsl := ls_size s
  have hs0 := Lib.hid (st_ls s)
  refine callsIn_of_wp Tryd.func48 rfl trivial ?_ rfl
  simp only [Tryd.ntmps48, List.size_toArray, List.length_cons, List.length_nil, Nat.reduceAdd, Nat.reduceSub, Array.replicate_succ, Array.replicate_zero, List.push_toArray, List.append_toArray, List.nil_append, List.cons_append]
  gi_wp2
  gi_loopw [3] (fun v wr => spRel (ls s) N J v wr) (fun v _ => szV v)
  case atStart => exact ⟨0, [], by omega, by rw [Nat.mul_zero, List.drop_zero, hs0.out], rfl, h0⟩
  case round =>
    obtain ⟨k, pre, hk, rfl, hpre, hJ⟩ := hrel
    have hRz : (st ((ls s).drop (188 * k))).size = s.size - 188 * k := by rw [st_size, List.length_drop, ← hsl]
    unfold np at hN
    by_cases hlt : k < N
    · obtain ⟨fn, tmps, assign, body, hy, hR⟩ := hY pre ⟨k, hlt⟩ wr hJ (by have := congrArg List.length hpre; rw [List.length_range, vlF, List.length_map] at this; omega)
      unfold encP at hy
      dsimp only at hy
      obtain ⟨m, hm⟩ : ∃ m, min 188 (s.size - 188 * k) = m := ⟨_, rfl⟩
      have HP := Lib.hid (show (st ((ls s).drop (188 * k))).extract 0 m = st (pcL (ls s) k) by
        rw [← st_ls (ByteArray.extract _ _ _), ls_part, ls_st, List.drop_zero, Nat.sub_zero]
        unfold pcL
        by_cases h : 188 ≤ s.size - 188 * k
        · rw [show m = 188 by omega]
        · rw [List.take_of_length_le (by rw [List.length_drop]; omega), List.take_of_length_le (by rw [List.length_drop]; omega)])
      have HR2 := Lib.hid (show (st ((ls s).drop (188 * k))).extract m (st ((ls s).drop (188 * k))).size = st ((ls s).drop (188 * (k + 1))) by
        rw [← st_ls (ByteArray.extract _ _ _), ls_part, ls_st, hRz, List.drop_drop]
        by_cases h : 188 ≤ s.size - 188 * k
        · rw [show m = 188 by omega, List.take_of_length_le (by rw [List.length_drop]; omega)]
          congr 2
        · rw [List.drop_of_length_le (by omega), List.drop_of_length_le (by omega), List.take_nil])
      have HN := Lib.hid (show vlF (pre ++ [⟨k, hlt⟩]) = List.range (k + 1) by rw [vlF_snoc, hpre, List.range_succ])
      obtain ⟨P, hP⟩ : ∃ P, st (pcL (ls s) k) = P := ⟨_, rfl⟩
      have HS2 := Lib.hid (show (st ((ls s).drop (188 * (k + 1)))).size < s.size - 188 * k by rw [st_size, List.length_drop]; omega)
      obtain ⟨R2, hR2⟩ : ∃ R, st ((ls s).drop (188 * (k + 1))) = R := ⟨_, rfl⟩
      have HR2E := Lib.hid hR2
      obtain ⟨R, hRR⟩ : ∃ R, st ((ls s).drop (188 * k)) = R := ⟨_, rfl⟩
      rw [hP] at hy
      simp only [hP, hR2, hRR] at HP HR2 HS2 hRz ⊢
      have hex1 := HP.out
      have hex2 := HR2.out
      have hRz2 := Lib.hid hRz
      have hne : (R.toList == []) = false := by
        rw [beq_eq_false_iff_ne, ls_toList]; intro e
        have h3 : R.size = 0 := by rw [ls_size, e]; rfl
        omega
      have hmI : min 188 (R.size : Int) = (m : Int) := by omega
      have hm1 : (m : Int) ≤ (R.size : Int) := by omega
      have hm0 : ¬ (m : Int) < 0 := by omega
      clear hP hR2 hRR hm hRz hsl
      gi_wp2
      refine hR.mono ?_
      rintro e W3 (⟨rfl, hJ3, _⟩ | ⟨rfl, hJx3⟩)
      · gi_wp2
        go_roundw
        case rel => exact ⟨k + 1, pre ++ [⟨k, hlt⟩], by omega, by rw [HR2E.out], HN.out, hJ3⟩
        case measure => simp [szV]; have := HS2.out; have := hRz2.out; omega
      · gi_wp2
        refine bodyPost_ret (results_none rfl _ _ _) rfl ?_
        exact ⟨⟨_, rfl⟩, .inr ⟨_, by rw [HN.out]; exact range_prefix (by omega), hJx3⟩⟩
    · obtain rfl : k = N := by omega
      have he : st ((ls s).drop (188 * k)) = ⟨#[]⟩ := by rw [List.drop_of_length_le (by omega)]; rfl
      rw [he]
      gi_wp2
      go_end0
      exact ⟨⟨_, rfl⟩, .inl ⟨_, hpre, hJ⟩⟩
theorem split_in (n : Nat) (s : ByteArray) (w : World) :
    CallsIn Fence.wide n Tryd.prog 35 #[.string s] w fun e w' => e = .returned (.func (.func 48) #[] #[.pointer (some ⟨w.heap.size, 0, none⟩)]) ∧ w' = w.alloc (.cells #[.string s] 9) := by
  refine callsIn_of_wp Tryd.func35 rfl trivial ?_ rfl
  simp only [Tryd.ntmps35, List.size_toArray, List.length_cons, List.length_nil, Nat.reduceAdd, Nat.reduceSub, Array.replicate_succ, Array.replicate_zero, List.push_toArray, List.append_toArray, List.nil_append, List.cons_append]
  gi_wp2
  go_ret
  exact ⟨rfl, rfl⟩
theorem split_stops (n : Nat) (hn : 1 ≤ n) (Bs : Nat) (s : ByteArray) (N : Nat) (hN : np s.size = N) (w : World) (hBs : Bs < w.heap.size) (hc : w.cell? ⟨Bs, 0, none⟩ = some (.string s)) :
    SeqStopsK Fence.wide n Tryd.prog 48 #[.pointer (some ⟨Bs, 0, none⟩)] (encP (ls s) (N := N)) (fun _ _ => True) (fun ys => vlF ys = List.range N) (fun pre => vlF pre <+: List.range N) N w := fun l J Jx W hW _ _ hY h0 =>
  spl1_in n hn l Bs s N hN J Jx hY W ((hW.cell (p := ⟨Bs, 0, none⟩) hBs).trans hc) h0
theorem pcL_0 (l : List UInt8) (i : Nat) : cf (pcL l i) 0 = cf l (188 * i) := by unfold pcL; rw [cf_take (by decide), cf_drop]; rfl
theorem pcL_pos {l : List UInt8} {N : Nat} (hN : np l.length = N) {i : Nat} (h : i < N) : 0 < (pcL l i).length := by
  unfold np at hN
  unfold pcL; rw [List.length_take, List.length_drop]; omega
set_option maxHeartbeats 4000000 in
theorem lead_in (s : ByteArray) (r : Bool) (hr : r = true ↔ goodL (ls s) 0) (w : World) :
    CallsIn Fence.wide 3 Tryd.prog 34 #[.string s] w fun e W' => e = .returned (.bool r) ∧ Below w.heap.size w W' := by
  obtain ⟨N, hN⟩ : ∃ N, np s.size = N := ⟨_, rfl⟩
  have hNl : np (ls s).length = N := by rw [← ls_size]; exact hN
  refine callsIn_of_wp_marks Tryd.func34 rfl trivial ?_ rfl
  simp only [Tryd.ntmps34, List.size_toArray, List.length_cons, List.length_nil, Nat.reduceAdd, Nat.reduceSub, Array.replicate_succ, Array.replicate_zero, List.push_toArray, List.append_toArray, List.nil_append, List.cons_append]
  gi_wp2
  refine ⟨trivial, (split_in _ _ _).mono ?_⟩
  rintro e w' ⟨rfl, rfl⟩
  gi_wp2
  have c0 := cell_new1 w (.bool false) 4
  have c1 := cell_new1 (w.alloc (.cells #[.bool false] 4)) (.string s) 9
  simp only [World.size_alloc] at c1
  have hB0 : Below w.heap.size w ((w.alloc (.cells #[.bool false] 4)).alloc (.cells #[.string s] 9)) := ((Below.refl _ w).alloc (Nat.le_refl _) _).alloc (by simp) _
  refine wpIn_rangeFunc_ownF rfl (by omega) (gf := 48) (lb := #[.pointer (some ⟨w.heap.size + 1, 0, none⟩)]) rfl trivial (enters_of Tryd.func48 (by kernel_rfl) rfl)
    (split_stops (3 - 1) (by omega) (w.heap.size + 1) s N hN _ (by simp) c1.1) (fun _ _ => trivial) (fun _ _ _ _ _ _ _ _ => trivial) (Below.refl _ _) (fun _ => rfl)
    (fun pre W => ((∀ y ∈ pre, cf (ls s) (188 * Fin.val y) = 71) ∧ W.cell? ⟨w.heap.size, 0, none⟩ = some (.bool false) ∧ W.frozen? ⟨w.heap.size, 0, none⟩ = false) ∧ Below w.heap.size w W)
    (fun c pre W => (c = .ret ∧ (∃ y : Fin N, cf (ls s) (188 * y.val) ≠ 71) ∧ W.cell? ⟨w.heap.size, 0, none⟩ = some (.bool false)) ∧ Below w.heap.size w W)
    (OwnFrom.and (Own.from (fun s A B row hs hg hr => ⟨hs.1, cell_kept hs.2.1 hg hr, (frozen_kept hs.2.1 hg hr).trans hs.2.2⟩) _) (ownFrom_below (Nat.le_refl _) (by simp; omega)))
    (fun c => OwnFrom.and (Own.from (fun s A B row hs hg hr => ⟨hs.1, hs.2.1, cell_kept hs.2.2 hg hr⟩) _) (ownFrom_below (Nat.le_refl _) (by simp; omega)))
    ⟨⟨by simp, cell_alloc1 _ c0.1, frozen_alloc1 _ c0.1 c0.2⟩, hB0⟩
    (fun x => { tmps := #[.string s, undef, .pointer (some ⟨w.heap.size, 0, none⟩), .string (st (pcL (ls s) x.val)), .string s, .func (.func 48) #[] #[.pointer (some ⟨w.heap.size + 1, 0, none⟩)], .string (st (pcL (ls s) x.val)), undef, undef, undef], defers := [] }) ?assign ?body ?done ?stop
  case assign =>
    intro l x W K hK
    unfold encP
    gi_wp2
    exact hK
  case body =>
    rintro l pre ⟨x, hxl⟩ W ⟨⟨hp0, hcr, hfr⟩, hB⟩ _
    have hps := pcL_pos hNl hxl
    have hp1 := pcL_0 (ls s) x
    obtain ⟨P, hP⟩ : ∃ P, st (pcL (ls s) x) = P := ⟨_, rfl⟩
    have hPl : ls P = pcL (ls s) x := by rw [← hP, ls_st]
    have hPz : 0 < P.size := by rw [ls_size, hPl]; exact hps
    have hgt := ls_get P 0 hPz
    rw [hPl, hp1] at hgt
    have hx1 : (0 : Int) < (P.size : Int) := by omega
    simp only [hP]
    clear hP hPl hps hp1
    by_cases hx : cf (ls s) (188 * x) = 71
    · have HX := Lib.hid hx
      rw [hx] at hgt
      gi_wp2
      exact ⟨KeepsOthers.refl _, trivial, ⟨fun y hy => (List.mem_append.1 hy).elim (hp0 y) (fun e => by simp at e; subst e; exact HX.out), hcr, hfr⟩, hB⟩
    · have HX := Lib.hid hx
      obtain ⟨c, hc⟩ : ∃ c, cf (ls s) (188 * x) = c := ⟨_, rfl⟩
      rw [hc] at hx hgt
      have hb : ((c.toNat : Int) == 71) = false := by
        rw [beq_eq_false_iff_ne]; intro e
        exact hx (UInt8.toNat_inj.1 (by show c.toNat = 71; omega))
      clear hc hx
      gi_wp2
      exact ⟨KeepsOthers.setCell _ _ _, ⟨rfl, ⟨⟨x, hxl⟩, HX.out⟩, World.cell?_setCell_same' _ _ _ (by rw [hcr]; rfl)⟩, hB.setCell (p := ⟨w.heap.size, 0, none⟩) (by simp) _⟩
  case done =>
    rintro D ys W hD hys ⟨⟨hne, hcr, hfr⟩, hB⟩ hK
    have hrt : r = true := hr.2 fun i hi => by
      rw [Nat.zero_add] at hi ⊢
      have hiN : i < N := by rw [← hN]; unfold np; rw [← ls_size] at hi; omega
      have : i ∈ vlF ys := by rw [hys]; exact List.mem_range.2 hiN
      obtain ⟨z, hz, rfl⟩ := List.mem_map.1 this
      exact hne z hz
    subst hrt
    gi_wp2
    have hK' := (KeepsOthers.setCell W ⟨w.heap.size, 0, none⟩ (.bool true)).same D _ hK rfl
    refine ⟨by simp, .inl ⟨_, _, rfl, run_takeDeferred hK', ?_⟩⟩
    have hc5 := cell_kept (World.cell?_setCell_same' W ⟨w.heap.size, 0, none⟩ (.bool true) (by rw [hcr]; rfl)) (grownBy_putObj' _ D (.deferred none)) (fun r e => by cases e; exact ⟨_, hK', rfl⟩)
    refine ⟨.bool true, ?_, rfl, (hB.setCell (p := ⟨w.heap.size, 0, none⟩) (by simp) _).trans (belowK_b (w := w) (Nat.le_refl _) _ D _ _ (by simp at hD; omega) hK' rfl rfl)⟩
    simp [results, Tryd.f34, go_sem, hc5]
  case stop =>
    rintro D c pre W hD hpre ⟨⟨rfl, ⟨y, hy⟩, hcr⟩, hB⟩ hK
    have hrf : r = false := by
      cases r with
      | false => rfl
      | true =>
        have hyN := y.isLt
        unfold np at hN
        have := hr.1 rfl y.val (by rw [← ls_size]; omega)
        rw [Nat.zero_add] at this
        exact absurd this hy
    subst hrf
    gi_wp2
    refine ⟨by simp, .inl ⟨_, _, rfl, run_takeDeferred hK, ?_⟩⟩
    have hc5 := cell_kept hcr (grownBy_putObj' _ D (.deferred none)) (fun r e => by cases e; exact ⟨_, hK, rfl⟩)
    refine ⟨.bool false, ?_, rfl, hB.trans (belowK_b (w := w) (Nat.le_refl _) W D _ _ (by simp at hD; omega) hK rfl rfl)⟩
    simp [results, Tryd.f34, go_sem, hc5]
theorem pklead_any (s : ByteArray) (r : Bool) (hr : r = true ↔ goodL (ls s) 0) (w : World) :
    Calls Tryd.prog 34 #[.string s] w fun e w' => e = .returned (.bool r) ∧ Keeps w w' :=
  (callsIn_wide (n := 3)).1 ((lead_in s r hr w).mono fun _ _ h => ⟨h.1, h.2⟩)
def fnRel (w0 : World) (l : List UInt8) (v : Value) (wr : World) : Prop := ∃ k : Nat, k ≤ 188 ∧ k ≤ l.length ∧ v = .int .i64 (k : Int) ∧ noneB l k ∧ Keeps w0 wr
def intOfV : Value → Int
  | .int _ n => n
  | _ => 0
theorem good_drop {l : List UInt8} {a : Nat} : goodL (l.drop a) 0 ↔ goodL l a := by
  constructor
  · intro h i hi
    have := h i (by rw [List.length_drop]; omega)
    rwa [cf_drop, show a + (0 + 188 * i) = a + 188 * i by omega] at this
  · exact good_from
theorem fd_at {l : List UInt8} {a : Nat} (h1 : a < 188) (h2 : a < l.length) (h3 : goodL l a) (h4 : noneB l a) : fdA l = (a : Int) ∧ fdE l = 0 := by
  have := isFind_one (fnd_is l) (find_some h1 h2 h3 h4)
  unfold fdA fdE; rw [this]; exact ⟨rfl, rfl⟩
theorem fd_no {l : List UInt8} {n : Nat} (h : noneB l n) (hn : 188 ≤ n ∨ l.length ≤ n) : fdA l = 0 ∧ fdE l = 18 := by
  have := isFind_one (fnd_is l) (find_none h hn)
  unfold fdA fdE; rw [this]; exact ⟨rfl, rfl⟩
set_option maxHeartbeats 3200000 in
theorem pkfind_any (s : ByteArray) (w : World) (hz : s.size ≤ 1000000) : Calls Tryd.prog 19 #[.string s] w fun e w' => e = .returned (.tuple #[.int .i64 (fdA (ls s)), .int .i64 (fdE (ls s))]) ∧ Keeps w w' := by
  have hsl := ls_size s
  obtain ⟨m, hm⟩ : ∃ m, min 188 s.size = m := ⟨_, rfl⟩
  have hm2 : m ≤ 188 ∧ m ≤ s.size := by omega
  have hm3 : 188 ≤ m ∨ s.size ≤ m := by omega
  have hmI : min 188 (s.size : Int) = (m : Int) := by omega
  clear hm
  obtain ⟨A, hA⟩ : ∃ A, fdA (ls s) = A := ⟨_, rfl⟩
  obtain ⟨E, hE⟩ : ∃ A, fdE (ls s) = A := ⟨_, rfl⟩
  rw [hA, hE]
  have HA := Lib.hid hA
  have HE := Lib.hid hE
  have HSL := Lib.hid hsl
  clear hA hE hsl
  go_enter Tryd.func19, Tryd.ntmps19
  go_wp2
  go_loopw [8] (fun v wr => fnRel w (ls s) v wr) (fun v _ => 188 - (intOfV v).toNat)
  case atStart => exact ⟨0, by omega, by omega, rfl, fun a ha => by omega, Keeps.refl _⟩
  case round =>
    obtain ⟨k, hk1, hk2, rfl, hnb, hkp⟩ := hrel
    rw [← HSL.out] at hk2
    have HK := Lib.hid hkp
    have HN := Lib.hid hnb
    clear hkp hnb
    by_cases hlt : k < m
    · have hlI : (k : Int) < (m : Int) := by omega
      have f0 : ¬ (k : Int) < 0 := by omega
      have f1 : (k : Int) ≤ (s.size : Int) := by omega
      obtain ⟨R, hR⟩ : ∃ R, st ((ls s).drop k) = R := ⟨_, rfl⟩
      have hRl : ls R = (ls s).drop k := by rw [← hR, ls_st]
      have hex : s.extract k s.size = R := by
        rw [← hR, ← st_ls (s.extract k s.size), ls_part]; congr 1; exact List.take_of_length_le (by rw [List.length_drop, ls_size]; omega)
      have hRz : R.size ≤ 1000000 := by rw [ls_size, hRl, List.length_drop, ← HSL.out]; omega
      have wr3 := wrapI (a := (k : Int) + 1) (by omega) (by omega)
      by_cases hg : goodL (ls s) k
      · obtain ⟨h1, h2⟩ := fd_at (by omega) (by rw [← HSL.out]; omega) hg HN.out
        obtain rfl : A = (k : Int) := HA.out.symm.trans h1
        obtain rfl : E = 0 := HE.out.symm.trans h2
        have HL := Lib.hid (pklead_any R true (by rw [hRl, good_drop]; exact ⟨fun _ => hg, fun _ => rfl⟩) wr)
        clear hR hRl hRz hg h1 h2
        go_wp2_with (go_at_call 34; refine HL.out.mono ?_; rintro _ w2 ⟨rfl, k2⟩; have HK := Lib.hid (HK.out.trans k2); clear k2)
        go_ret2
        exact ⟨rfl, HK.out⟩
      · have HL := Lib.hid (pklead_any R false (by rw [hRl, good_drop]; exact ⟨fun h => (by cases h), fun h => absurd h hg⟩) wr)
        have HN2 := Lib.hid (noneB_next HN.out hg)
        clear hR hRl hRz hg
        go_wp2_with (go_at_call 34; refine HL.out.mono ?_; rintro _ w2 ⟨rfl, k2⟩; have HK := Lib.hid (HK.out.trans k2); clear k2)
        go_roundw
        case rel => exact ⟨k + 1, by omega, by rw [← HSL.out]; omega, by go_num, HN2.out, HK.out⟩
        case measure => simp [intOfV]; omega
    · have hlI : ¬ (k : Int) < (m : Int) := by omega
      obtain ⟨h1, h2⟩ := fd_no HN.out (by rw [← HSL.out]; omega)
      obtain rfl : A = 0 := HA.out.symm.trans h1
      obtain rfl : E = 18 := HE.out.symm.trans h2
      clear h1 h2
      go_wp2
      go_ret2
      exact ⟨rfl, HK.out⟩
/-- 'v = append(v, y)' of a row of texts, inside a fence. -/
theorem wpIn_pushT {F : Fence} {n : Nat} {ops : Array Oper} {rest : List Oper} {o : Oper} {a : Act} {Q : Exit → Act → World → Prop} {wr : World} (hgd : o.guard = none) (s x : Operand)
    (ho : o.op = .call { callee := .builtin .append, args := #[s, x], argTypes := #[44, 44] }) {base : Nat} {v : Value} {l : List (List UInt8)} (y : List UInt8) (P : ByteArray) (hP : st y = P) (H : Nat) (hH : wr.heap.size = H) (hown : OwnE rowT wr base v l)
    (hs : a.eval s = v) (hx : a.eval x = .slice (some ⟨H, 0, none⟩) 1 1) (hl : l.length ≤ 100000000) (hb : base ≤ wr.heap.size) (t : TypeId)
    (h : ∀ v' w', OwnE rowT w' base v' (l ++ [y]) → (wr.alloc (.cells #[.string P] t)).grownBy w' v.ownBlock → wpListIn F n Tryd.prog ops Q rest (a.put o.dst v') w') :
    wpListIn F n Tryd.prog ops Q (o :: rest) a (wr.alloc (.cells #[.string P] t)) := by
  subst hP hH
  obtain ⟨i0, hi, hz0, hz1, hz2⟩ := info_parts rowT.info
  have hown0 : (wr.alloc (.cells #[.string (st y)] t)).ownsRow base rowT.E rowT.sz v l.length (rowT.cells l) := hown.at fun g hg => Below.heap_alloc wr _ g (hown.old hg)
  refine wpListIn_append_own _ hgd s x rowT.S ho base rowT.E i0 rowT.z rowT.sz rowT.bs rowT.und hi hz0 hz1 hz2 rowT.zs rowT.pos v l.length (rowT.cells l) hs hown0
    ⟨wr.heap.size, 0, none⟩ 1 1 (rowT.cells [y]) hx (by rw [rowT.cells_length]; rfl) ?_ (rowT.cells_one' [y]) ?_ ?_ (by rw [World.size_alloc]; omega) ?_
  · intro j u hj
    rw [Addr.add_mid, World.cell?_alloc_new, Nat.zero_add, List.getElem?_toArray]
    rw [rowT.cells_one] at hj; exact hj
  · unfold maxLen; omega
  · show (l.length + 1) * 16 ≤ _; omega
  · intro v' w' h1 h2 _
    refine h v' w' ?_ h2
    unfold OwnE; rw [List.length_append, rowT.cells_append]; exact h1
theorem OwnE.cells {w : World} {base b : Nat} {v : Value} {l : List (List UInt8)} (h : OwnE rowT w base v l) (hb : v.ownBlock = some b) : ∃ o : Obj, w.heap[b]? = some o ∧ o.isCells = true := by
  obtain ⟨_, h⟩ := h
  rcases h with ⟨rfl, _⟩ | ⟨g, cap, cur, rfl, _, hh, _⟩
  · cases hb
  · cases hb; exact ⟨_, hh, rfl⟩
/-- While bytes are cut: the row of pieces, and where it and the results lie. -/
structure CutJ (w : World) (l : List UInt8) (X B : Nat) (a : Option Addr) (n cap : Nat) (q : List Nat) (W : World) : Prop where
  own : OwnE rowT W B (.slice a n cap) (q.map (pcL l))
  cl : W.cell? ⟨X + 2, 0, none⟩ = some (.slice a n cap)
  fl : W.frozen? ⟨X + 2, 0, none⟩ = false
  c0 : W.cell? ⟨X, 0, none⟩ = some (.slice none 0 0)
  f0 : W.frozen? ⟨X, 0, none⟩ = false
  c1 : W.cell? ⟨X + 1, 0, none⟩ = some (.string ⟨#[]⟩)
  f1 : W.frozen? ⟨X + 1, 0, none⟩ = false
  full : ∀ i ∈ q, (pcL l i).length = 188
  bel : Below X w W
  lt : X + 2 < B
  sz : B ≤ W.heap.size
section
variable {w W W' : World} {l : List UInt8} {X B n cap : Nat} {a : Option Addr} {q : List Nat}
theorem CutJ.move (h : CutJ w l X B a n cap q W) {row : Option Nat} (hg : W.grownBy W' row) (hr : ∀ r, row = some r → B ≤ r ∧ ∃ o : Obj, W.heap[r]? = some o ∧ o.isCells = false) : CutJ w l X B a n cap q W' := by
  have hr2 : ∀ r, row = some r → ∃ o : Obj, W.heap[r]? = some o ∧ o.isCells = false := fun r e => (hr r e).2
  have hw := h.lt
  refine ⟨h.own.stays hg fun b e hb => ?_, cell_kept h.cl hg hr2, (frozen_kept h.cl hg hr2).trans h.fl, cell_kept h.c0 hg hr2, (frozen_kept h.c0 hg hr2).trans h.f0, cell_kept h.c1 hg hr2, (frozen_kept h.c1 hg hr2).trans h.f1, h.full,
    h.bel.grown hg (by have := h.sz; omega) (fun k e => by have := (hr k e).1; omega), h.lt, Nat.le_trans h.sz hg.size⟩
  obtain ⟨o, ho, hc⟩ := hr2 b e
  obtain ⟨o2, ho2, hc2⟩ := h.own.cells hb
  rw [ho] at ho2; cases ho2; rw [hc] at hc2; cases hc2
theorem CutJ.keeps (h : CutJ w l X B a n cap q W) (k : Keeps W W') : CutJ w l X B a n cap q W' := by
  have hz := h.sz
  have hw := h.lt
  have hb : ∀ i, i < W.heap.size → W'.heap[i]? = W.heap[i]? := fun i hi => Below.block k i hi
  have hc : ∀ i, i ≤ X + 2 → W'.cell? ⟨i, 0, none⟩ = W.cell? ⟨i, 0, none⟩ := fun i hi => World.cell?_of_block (hb i (by omega))
  have hf : ∀ i, i ≤ X + 2 → W'.frozen? ⟨i, 0, none⟩ = W.frozen? ⟨i, 0, none⟩ := fun i hi => World.frozen?_of_block (hb i (by omega))
  exact ⟨h.own.keeps k, (hc _ (by omega)).trans h.cl, (hf _ (by omega)).trans h.fl, (hc _ (by omega)).trans h.c0, (hf _ (by omega)).trans h.f0, (hc _ (by omega)).trans h.c1, (hf _ (by omega)).trans h.f1, h.full, h.bel.trans (Below.mono k (by omega)), h.lt, Nat.le_trans h.sz (Below.size k)⟩
/-- A piece is appended. -/
theorem CutJ.push (h : CutJ w l X B a n cap q W) {o : Obj} {w7 : World} (hg : (W.alloc o).grownBy w7 (Value.slice a n cap).ownBlock) : w7.cell? ⟨X + 2, 0, none⟩ = some (.slice a n cap) ∧ w7.frozen? ⟨X + 2, 0, none⟩ = false ∧ KeepsOthers W w7 ∧
    ∀ a' n' cap' x, OwnE rowT w7 B (.slice a' n' cap') (q.map (pcL l) ++ [pcL l x]) → (pcL l x).length = 188 → CutJ w l X B a' n' cap' (q ++ [x]) (w7.setCell ⟨X + 2, 0, none⟩ (.slice a' n' cap')) := by
  have h2 := h.keeps ((Keeps.refl W).alloc o)
  have hz := h2.sz
  have hw := h2.lt
  have hne : ∀ i, i ≤ X + 2 → some i ≠ (Value.slice a n cap).ownBlock := fun i hi e => by have := h2.own.block i e.symm; omega
  have hb : ∀ i, i ≤ X + 2 → w7.heap[i]? = (W.alloc o).heap[i]? := fun i hi => hg.block i (by omega) (hne i hi)
  have hc : ∀ i, i ≤ X + 2 → w7.cell? ⟨i, 0, none⟩ = (W.alloc o).cell? ⟨i, 0, none⟩ := fun i hi => World.cell?_of_block (hb i hi)
  have hf : ∀ i, i ≤ X + 2 → w7.frozen? ⟨i, 0, none⟩ = (W.alloc o).frozen? ⟨i, 0, none⟩ := fun i hi => World.frozen?_of_block (hb i hi)
  have hcl := (hc _ (Nat.le_refl _)).trans h2.cl
  have hfl := (hf _ (Nat.le_refl _)).trans h2.fl
  refine ⟨hcl, hfl, (KeepsOthers.alloc W o).trans (KeepsOthers.of_grownBy hg fun j o' e ho' => ?_), fun a' n' cap' x hown hx => ?_⟩
  · obtain ⟨o2, ho2, hc2⟩ := h2.own.cells e
    rw [ho'] at ho2; cases ho2; exact hc2
  · have ho : Only (X + 2) w7 (w7.setCell ⟨X + 2, 0, none⟩ (.slice a' n' cap')) := Only.setCell w7 ⟨X + 2, 0, none⟩ (.slice a' n' cap')
    have hw7 : W.heap.size ≤ w7.heap.size := by have := hg.size; rw [World.size_alloc] at this; omega
    have hz0 := h.sz
    refine ⟨?_, World.cell?_setCell_same' _ _ _ (by rw [hcl]; rfl), (by rw [World.frozen?_setCell]; exact hfl), ?_, ?_, ?_, ?_, ?_, ?_, h.lt, ?_⟩
    · rw [List.map_append, List.map_singleton]
      exact hown.only ho fun e => by have := hown.block _ e; omega
    · exact (ho.cell (p := ⟨X, 0, none⟩) (by show X < _; omega) (by show X ≠ X + 2; omega)).trans ((hc X (by omega)).trans h2.c0)
    · exact (ho.frozen (p := ⟨X, 0, none⟩) (by show X < _; omega) (by show X ≠ X + 2; omega)).trans ((hf X (by omega)).trans h2.f0)
    · exact (ho.cell (p := ⟨X + 1, 0, none⟩) (by show X + 1 < _; omega) (by show X + 1 ≠ X + 2; omega)).trans ((hc (X + 1) (by omega)).trans h2.c1)
    · exact (ho.frozen (p := ⟨X + 1, 0, none⟩) (by show X + 1 < _; omega) (by show X + 1 ≠ X + 2; omega)).trans ((hf (X + 1) (by omega)).trans h2.f1)
    · intro i hi
      rcases List.mem_append.1 hi with hi | hi
      · exact h.full i hi
      · rw [List.mem_singleton.1 hi]; exact hx
    · refine Below.trans (h2.bel.grown hg (by omega) (fun k e => ?_)) ⟨ho.os, ho.tape, ho.output, ho.size, fun i hi => ho.block i (by omega) (by omega)⟩
      have := h2.own.block k e; omega
    · exact Nat.le_trans (by omega : B ≤ w7.heap.size) ho.size
end
/-- What is answered, ahead of the end. -/
structure CutE (w : World) (X B : Nat) (a : Option Addr) (n cap : Nat) (L : List (List UInt8)) (P : ByteArray) (W : World) : Prop where
  own : OwnE rowT W B (.slice a n cap) L
  c0 : W.cell? ⟨X, 0, none⟩ = some (.slice a n cap)
  c1 : W.cell? ⟨X + 1, 0, none⟩ = some (.string P)
  bel : Below X w W
  lt : X + 2 < B
  sz : B ≤ W.heap.size
theorem CutE.move {w W W' : World} {X B n cap : Nat} {a : Option Addr} {L : List (List UInt8)} {P : ByteArray} (h : CutE w X B a n cap L P W) {row : Option Nat} (hg : W.grownBy W' row) (hr : ∀ r, row = some r → B ≤ r ∧ ∃ o : Obj, W.heap[r]? = some o ∧ o.isCells = false) : CutE w X B a n cap L P W' := by
  have hr2 : ∀ r, row = some r → ∃ o : Obj, W.heap[r]? = some o ∧ o.isCells = false := fun r e => (hr r e).2
  have hw := h.lt
  have hz := h.sz
  refine ⟨h.own.stays hg fun b e hb => ?_, cell_kept h.c0 hg hr2, cell_kept h.c1 hg hr2, h.bel.grown hg (by omega) (fun k e => by have := (hr k e).1; omega), h.lt, Nat.le_trans h.sz hg.size⟩
  obtain ⟨o, ho, hc⟩ := hr2 b e
  obtain ⟨o2, ho2, hc2⟩ := h.own.cells hb
  rw [ho] at ho2; cases ho2; rw [hc] at hc2; cases hc2
theorem CutJ.ends {w W : World} {l : List UInt8} {X B n cap : Nat} {a : Option Addr} {q : List Nat} (h : CutJ w l X B a n cap q W) (P : ByteArray) : CutE w X B a n cap (q.map (pcL l)) P ((W.setCell ⟨X, 0, none⟩ (.slice a n cap)).setCell ⟨X + 1, 0, none⟩ (.string P)) := by
  have hw := h.lt
  have hz := h.sz
  have o1 : Only X W (W.setCell ⟨X, 0, none⟩ (.slice a n cap)) := Only.setCell W ⟨X, 0, none⟩ _
  have o2 : Only (X + 1) (W.setCell ⟨X, 0, none⟩ (.slice a n cap)) ((W.setCell ⟨X, 0, none⟩ (.slice a n cap)).setCell ⟨X + 1, 0, none⟩ (.string P)) := Only.setCell _ ⟨X + 1, 0, none⟩ _
  have s1 := o1.size
  have s2 := o2.size
  have hc1 : (W.setCell ⟨X, 0, none⟩ (.slice a n cap)).cell? ⟨X + 1, 0, none⟩ = some (.string ⟨#[]⟩) := (o1.cell (p := ⟨X + 1, 0, none⟩) (by show X + 1 < _; omega) (by show X + 1 ≠ X; omega)).trans h.c1
  refine ⟨(h.own.only o1 fun e => by have := h.own.block _ e; omega).only o2 (fun e => by have := h.own.block _ e; omega), ?_, World.cell?_setCell_same' _ _ _ (by rw [hc1]; rfl), ?_, hw, by omega⟩
  · exact (o2.cell (p := ⟨X, 0, none⟩) (by show X < _; omega) (by show X ≠ X + 1; omega)).trans (World.cell?_setCell_same' _ _ _ (by rw [h.c0]; rfl))
  · exact h.bel.trans (Below.trans ⟨o1.os, o1.tape, o1.output, o1.size, fun i hi => o1.block i (by omega) (by omega)⟩ ⟨o2.os, o2.tape, o2.output, o2.size, fun i hi => o2.block i (by omega) (by omega)⟩)
theorem pcs_np {l : List UInt8} {N : Nat} (hN : np l.length = N) (hf : ∀ i, i < N → (pcL l i).length = 188) : pcs l = (List.range N).map (pcL l) ∧ rst l = [] := by
  unfold np at hN
  have hd : l.length = 188 * N := by
    by_cases h0 : N = 0
    · omega
    · have h1 := hf (N - 1) (by omega)
      unfold pcL at h1
      rw [List.length_take, List.length_drop] at h1
      omega
  have hq : l.length / 188 = N := by omega
  unfold pcs rst
  rw [hq]
  exact ⟨rfl, List.drop_of_length_le (by omega)⟩
theorem pcs_at {l : List UInt8} {k : Nat} (hk : 188 * k < l.length) (hy : (pcL l k).length < 188) : pcs l = (List.range k).map (pcL l) ∧ rst l = pcL l k := by
  unfold pcL at hy
  rw [List.length_take, List.length_drop] at hy
  have hq : l.length / 188 = k := by omega
  unfold pcs rst
  rw [hq]
  exact ⟨rfl, by unfold pcL; rw [List.take_of_length_le (by rw [List.length_drop]; omega)]⟩
theorem prefix_range {N : Nat} {q : List Nat} {y : Nat} (hpre : q ++ [y] <+: List.range N) : q = List.range q.length ∧ y = q.length ∧ q.length < N := by
  have hlen := hpre.length_le
  rw [List.length_range, List.length_append, List.length_singleton] at hlen
  have e : q ++ [y] = List.range (q.length + 1) := by
    have h1 := List.prefix_iff_eq_take.1 hpre
    rw [h1, List.length_append, List.length_singleton, List.take_range, Nat.min_eq_left hlen]
  rw [List.range_succ] at e
  have e1 := List.append_inj' e rfl
  exact ⟨e1.1, by simpa using e1.2, by omega⟩
theorem keepsO {W W' : World} (h : Keeps W W') : KeepsOthers W W' := ⟨Below.size h, fun k _ hk _ => (Below.block h k (Array.getElem?_eq_some_iff.1 hk).1).trans hk⟩
/-- What Cut answers. -/
def CutA (w : World) (l : List UInt8) (e : Ending) (w' : World) : Prop := ∃ a cap, e = .returned (.tuple #[.slice a (pcs l).length cap, .string (st (rst l))]) ∧ IsT w' a (pcs l).length (pcs l) ∧ (pcs l).length ≤ cap ∧ Below w.heap.size w w'
theorem CutA.of {w W : World} {l : List UInt8} {B n cap : Nat} {a : Option Addr} {L : List (List UInt8)} {t : ByteArray} (h : OwnE rowT W B (.slice a n cap) L) (h1 : pcs l = L) (h2 : st (rst l) = t) (hb : Below w.heap.size w W) : CutA w l (.returned (.tuple #[.slice a n cap, .string t])) W := by
  obtain ⟨a', cap', e, hi, hc⟩ := h.is
  cases e
  subst h1 h2
  exact ⟨_, _, rfl, hi.texts, hc, hb⟩
set_option maxHeartbeats 8000000 in
theorem cut_in (s : ByteArray) (hs : s.size ≤ 1000000) (w : World) : CallsIn Fence.wide 5 Tryd.prog 21 #[.string s] w (CutA w (ls s)) := by
  obtain ⟨N, hN⟩ : ∃ N, np s.size = N := ⟨_, rfl⟩
  have hNl : np (ls s).length = N := by rw [← ls_size]; exact hN
  obtain ⟨l, hl⟩ : ∃ l, ls s = l := ⟨_, rfl⟩
  have HST := Lib.hid (fun w0 hB hc => split_stops (5 - 1) (by omega) (w.heap.size + 3) s N hN w0 hB hc)
  rw [hl] at hNl HST ⊢
  have hll : l.length ≤ 1000000 := by rw [← hl, ← ls_size]; exact hs
  clear hN hl
  refine callsIn_of_wp_marks Tryd.func21 rfl trivial ?_ rfl
  simp only [Tryd.ntmps21, List.size_toArray, List.length_cons, List.length_nil, Nat.reduceAdd, Nat.reduceSub, Array.replicate_succ, Array.replicate_zero, List.push_toArray, List.append_toArray, List.nil_append, List.cons_append]
  gi_wp2
  refine ⟨trivial, (split_in _ _ _).mono ?_⟩
  rintro e w' ⟨rfl, rfl⟩
  gi_wp2
  have a0 := cell_new1 w (.slice none 0 0) 44
  have a1 := cell_new1 (w.alloc (.cells #[.slice none 0 0] 44)) (.string ⟨#[]⟩) 9
  have a2 := cell_new1 ((w.alloc (.cells #[.slice none 0 0] 44)).alloc (.cells #[.string ⟨#[]⟩] 9)) (.slice none 0 0) 44
  have a3 := cell_new1 (((w.alloc (.cells #[.slice none 0 0] 44)).alloc (.cells #[.string ⟨#[]⟩] 9)).alloc (.cells #[.slice none 0 0] 44)) (.string s) 9
  simp only [World.size_alloc] at a1 a2 a3
  have k3 : Keeps w ((((w.alloc (.cells #[.slice none 0 0] 44)).alloc (.cells #[.string ⟨#[]⟩] 9)).alloc (.cells #[.slice none 0 0] 44)).alloc (.cells #[.string s] 9)) := ((((Keeps.refl w).alloc _).alloc _).alloc _).alloc _
  have z3 : ((((w.alloc (.cells #[.slice none 0 0] 44)).alloc (.cells #[.string ⟨#[]⟩] 9)).alloc (.cells #[.slice none 0 0] 44)).alloc (.cells #[.string s] 9)).heap.size = w.heap.size + 4 := by simp
  have j0 : CutJ w l w.heap.size (w.heap.size + 4) none 0 0 [] ((((w.alloc (.cells #[.slice none 0 0] 44)).alloc (.cells #[.string ⟨#[]⟩] 9)).alloc (.cells #[.slice none 0 0] 44)).alloc (.cells #[.string s] 9)) :=
    ⟨OwnE.nil _ _, cell_alloc1 _ a2.1, frozen_alloc1 _ a2.1 a2.2, cell_alloc1 _ (cell_alloc1 _ (cell_alloc1 _ a0.1)), frozen_alloc1 _ (cell_alloc1 _ (cell_alloc1 _ a0.1)) (frozen_alloc1 _ (cell_alloc1 _ a0.1) (frozen_alloc1 _ a0.1 a0.2)), cell_alloc1 _ (cell_alloc1 _ a1.1), frozen_alloc1 _ (cell_alloc1 _ a1.1) (frozen_alloc1 _ a1.1 a1.2), by simp, k3, by omega, by rw [z3]; exact Nat.le_refl _⟩
  have c3 := a3.1
  clear a0 a1 a2 a3 k3
  obtain ⟨w3, hw3⟩ : ∃ w3, ((((w.alloc (.cells #[.slice none 0 0] 44)).alloc (.cells #[.string ⟨#[]⟩] 9)).alloc (.cells #[.slice none 0 0] 44)).alloc (.cells #[.string s] 9)) = w3 := ⟨_, rfl⟩
  simp only [hw3] at z3 j0 c3 ⊢
  clear hw3
  obtain ⟨X, hX⟩ : ∃ X, w.heap.size = X := ⟨_, rfl⟩
  simp only [hX] at z3 j0 c3 HST ⊢
  have HX := Lib.hid hX
  clear hX
  refine wpIn_rangeFunc_ownF rfl (by omega) (gf := 48) (lb := #[.pointer (some ⟨X + 3, 0, none⟩)]) rfl trivial (enters_of Tryd.func48 (by kernel_rfl) rfl)
    (HST.out w3 (by omega) c3) (fun _ _ => trivial) (fun _ _ _ _ _ _ _ _ => trivial) (Below.refl _ _) (fun _ => rfl)
    (fun pre W => ∃ a n cap, CutJ w l X (X + 4) a n cap (vlF pre) W)
    (fun c pre W => c = .ret ∧ ∃ (q : List (Fin N)) (y : Fin N) (a : Option Addr) (n cap : Nat), pre = q ++ [y] ∧ (pcL l y.val).length < 188 ∧ CutE w X (X + 4) a n cap ((vlF q).map (pcL l)) (st (pcL l y.val)) W)
    (fun pre W W' row hs hg hr => by obtain ⟨a, n, cap, h⟩ := hs; exact ⟨a, n, cap, h.move hg (by rw [z3] at hr; exact hr)⟩)
    (fun c pre W W' row hs hg hr => by obtain ⟨e0, q, y, a, n, cap, e1, e2, h⟩ := hs; exact ⟨e0, q, y, a, n, cap, e1, e2, h.move hg (by rw [z3] at hr; exact hr)⟩)
    ⟨none, 0, 0, j0⟩
    (fun x => { tmps := #[.string s, undef, .pointer (some ⟨X, 0, none⟩), .pointer (some ⟨X + 1, 0, none⟩), .pointer (some ⟨X + 2, 0, none⟩), .string (st (pcL l x.val)), .string s, .func (.func 48) #[] #[.pointer (some ⟨X + 3, 0, none⟩)], .string (st (pcL l x.val)), undef, undef, undef, undef, undef, undef, undef, undef, undef, undef, undef, undef], defers := [] }) ?assign ?body ?done ?stop
  case assign =>
    intro lp x W K hK
    unfold encP
    gi_wp2
    exact hK
  case body =>
    rintro lp pre ⟨x, hxl⟩ W ⟨a, n, cap, hJ⟩ hpl
    have HJ := Lib.hid hJ
    have hpz : (pcL l x).length ≤ 188 := by unfold pcL; rw [List.length_take]; omega
    obtain ⟨P, hP⟩ : ∃ P, st (pcL l x) = P := ⟨_, rfl⟩
    have hPz : P.size = (pcL l x).length := by rw [← hP, st_size]
    have HP := Lib.hid hP
    have HC := Lib.hid (clone_any P)
    simp only [hP]
    clear hP hJ
    gi_wp2
    refine ⟨trivial, CallsIn.inRound _ (callsIn_wide.2 ?_)⟩
    refine (HC.out _ (by omega)).mono ?_
    rintro _ w5 ⟨rfl, k5⟩
    have HO5 := Lib.hid (keepsO k5)
    have hJ5 := HJ.out.keeps k5
    clear k5
    have HJ5 := Lib.hid hJ5
    have c2 := hJ5.cl
    by_cases hf : (pcL l x).length < 188
    · have hi : (P.size : Int) < 188 := by omega
      have d0 := hJ5.c0
      have f0 := hJ5.f0
      have d1 := hJ5.c1
      have f1 := hJ5.f1
      clear hJ5 hPz
      gi_wp2
      exact ⟨HO5.out.trans ((KeepsOthers.setCell _ _ _).trans (KeepsOthers.setCell _ _ _)), rfl, pre, ⟨x, hxl⟩, a, n, cap, rfl, hf, by rw [HP.out]; exact HJ5.out.ends P⟩
    · have hi : ¬ (P.size : Int) < 188 := by omega
      have HPL := Lib.hid (show (vlF pre).length ≤ 100000000 by
        rw [vlF, List.length_map]
        unfold np at hNl
        omega)
      have HF := Lib.hid (show (pcL l x).length = 188 by omega)
      clear hJ5 hPz
      gi_wp2_with (refine wpIn_pushT (base := X + 4) rfl _ _ rfl (pcL l x) P HP.out w5.heap.size rfl HJ5.out.own rfl rfl (by rw [List.length_map]; exact HPL.out) HJ5.out.sz 9 ?_; rintro v7 w7 h7 g7; obtain ⟨p1, p2, p3, p4⟩ := HJ5.out.push g7; obtain ⟨a7, cap7, rfl, _, _⟩ := h7.is; have HP4 := Lib.hid (p4 a7 _ cap7 x h7 HF.out); have HP3 := Lib.hid p3; clear p3 p4 h7 g7)
      have e7 : (List.map (pcL l) (vlF pre) ++ [pcL l x]).length = (vlF pre).length + 1 := by simp
      rw [e7] at HP4
      exact ⟨HO5.out.trans (HP3.out.trans (KeepsOthers.setCell _ _ _)), trivial, a7, _, cap7, by rw [vlF_snoc]; exact HP4.out⟩
  case done =>
    rintro D ys W hD hys ⟨a, n, cap, hJ⟩ hK
    rw [z3] at hD
    obtain ⟨r1, r2⟩ := pcs_np hNl (fun i hi => hJ.full i (by rw [hys]; exact List.mem_range.2 hi))
    have c2 := hJ.cl
    have d0 := hJ.c0
    have f0 := hJ.f0
    have d1 := hJ.c1
    have f1 := hJ.f1
    have HE := Lib.hid (hJ.ends ⟨#[]⟩)
    have HK := Lib.hid (((KeepsOthers.setCell W ⟨X, 0, none⟩ (.slice a n cap)).trans (KeepsOthers.setCell _ ⟨X + 1, 0, none⟩ (.string ⟨#[]⟩))).same D _ hK rfl)
    have HR1 := Lib.hid r1
    have HR2 := Lib.hid r2
    have HYS := Lib.hid hys
    clear hJ hK r1 r2 hys
    gi_wp2
    refine ⟨by simp, .inl ⟨_, _, rfl, run_takeDeferred HK.out, ?_⟩⟩
    have hE := HE.out.move (grownBy_putObj' _ D (.deferred none)) (fun r e => by cases e; exact ⟨hD, _, HK.out, rfl⟩)
    have g0 := hE.c0
    have g1 := hE.c1
    refine ⟨.tuple #[.slice a n cap, .string ⟨#[]⟩], ?_, CutA.of hE.own (by rw [HR1.out, HYS.out]) (by rw [HR2.out]; rfl) (by rw [HX.out]; exact hE.bel)⟩
    simp [results, Tryd.f21, go_sem, g0, g1]
  case stop =>
    rintro D c pre W hD hpre ⟨rfl, q, y, a, n, cap, rfl, hy, hE⟩ hK
    rw [z3] at hD
    rw [vlF_snoc] at hpre
    obtain ⟨q1, q2, q3⟩ := prefix_range hpre
    have hyl : 188 * y.val < l.length := by
      have := y.isLt
      unfold np at hNl; omega
    obtain ⟨r1, r2⟩ := pcs_at hyl hy
    gi_wp2
    refine ⟨by simp, .inl ⟨_, _, rfl, run_takeDeferred hK, ?_⟩⟩
    have hE := hE.move (grownBy_putObj' _ D (.deferred none)) (fun r e => by cases e; exact ⟨hD, _, hK, rfl⟩)
    have g0 := hE.c0
    have g1 := hE.c1
    refine ⟨.tuple #[.slice a n cap, .string (st (pcL l y.val))], ?_, CutA.of hE.own (by rw [r1, q2, ← q1]) (by rw [r2]) (by rw [HX.out]; exact hE.bel)⟩
    simp [results, Tryd.f21, go_sem, g0, g1]
theorem pkcut_any (s : ByteArray) (w : World) (hz : s.size ≤ 1000000) : Calls Tryd.prog 21 #[.string s] w fun e w' => ∃ a cap, e = .returned (.tuple #[.slice a (pcs (ls s)).length cap, .string (st (rst (ls s)))]) ∧ IsT w' a (pcs (ls s)).length (pcs (ls s)) ∧ (pcs (ls s)).length ≤ cap ∧ Keeps w w' :=
  (callsIn_wide (n := 5)).1 (cut_in s hz w)
end Go.Proofs.YtikknojhoejciaaDoor
