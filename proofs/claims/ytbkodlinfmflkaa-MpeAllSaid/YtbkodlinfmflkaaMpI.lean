/-
  The library's iterator over a list of texts and its Clone of a list, and what All of package mpe answers, and does. The memory that was there stays.
-/
import Derived.RangeFuncNested
import Derived.RangeFuncBound
import Derived.RangeFuncCalls
import Derived.RangeFuncLeaves
import Derived.RangeFuncFrom
import Derived.Shelf.Abstract
import Derived.Shelf.RegionOpen
import Derived.WalkKit
import Derived.OwnWalkIn
import Derived.TacticsInMore
import Derived.LoopNIn
import Derived.LoopIn
import Derived.Laws.EntriesVeiled
import Derived.Test.YtbkodlinfmflkaaMpB
namespace Go.Proofs.Ytbkodlinfmflkaa
open Go.RowKit Go.Shelf Gf Tm Sct Mpe
set_option maxRecDepth 100000
attribute [local go_sem] Oper.semAt_some
/-- A list that is read as texts is one that is read as a row of them. -/
theorem IsT.row {w : World} {a : Option Addr} {len : Nat} {l : List (List UInt8)} (h : IsT w a len l) : IsE rowT w a len l :=
  ⟨h.1, fun h0 => by
    obtain ⟨b, off, ha, hb, hc⟩ := h.2 h0
    refine ⟨b, off, ha, hb, fun i u hu => ?_⟩
    rw [rowT_cells, List.getElem?_map] at hu
    obtain ⟨t, ht, rfl⟩ := Option.map_eq_some_iff.1 hu
    obtain ⟨hi, e⟩ := List.getElem?_eq_some_iff.1 ht
    rw [hc i hi, List.getD_eq_getElem?_getD, ht]; rfl⟩
/-- The iterator over a list of texts: J k holds ahead of place k. -/
theorem slall1_in (n : Nat) (hn : 1 ≤ n) (l Bs : Nat) (a : Option Addr) (len cap : Nat) (L : List (List UInt8)) (hL : len ≤ 1000000) (J : Nat → World → Prop)
    (hJ : ∀ k W, J k W → IsT W a len L)
    (hY : ∀ k W, k < len → J k W → YieldAt Fence.wide (n - 1) Try.prog l #[.int .i64 (k : Int), .string (st (L.getD k []))] W fun x W' => x = .returned (.bool true) ∧ J (k + 1) W')
    (W : World) (hB : W.cell? ⟨Bs, 0, none⟩ = some (.slice a len cap)) (h0 : J 0 W) :
    CallsIn Fence.wide n Try.prog 61 #[.func (.yield l) #[] #[], .pointer (some ⟨Bs, 0, none⟩)] W fun x W' => (∃ v, x = .returned v) ∧ J len W' := by
  refine callsIn_of_wp Try.func61 rfl trivial ?_ rfl
  simp only [Try.ntmps61, List.size_toArray, List.length_cons, List.length_nil, Nat.reduceAdd, Nat.reduceSub, Array.replicate_succ, Array.replicate_zero, List.push_toArray, List.append_toArray, List.nil_append, List.cons_append]
  gi_wp2
  gi_loopw [7] (fun i wr => ∃ k : Nat, i = .int .i64 (k : Int) ∧ k ≤ len ∧ J k wr) (fun i _ => len - (intOf i).toNat)
  case atStart => exact ⟨0, rfl, by omega, h0⟩
  case round =>
    obtain ⟨k, rfl, hk, hj⟩ := hrel
    have hI := hJ k wr hj
    by_cases hlt : k < len
    · obtain ⟨b1, off1, rfl, hc⟩ := hI.get (k := k) (by rw [← hI.1]; exact hlt)
      have HY := Lib.hid (hY k wr hlt hj)
      clear hY hJ
      generalize st (L.getD k []) = t at *
      obtain ⟨fn, tmps, assign, body, hy, hR⟩ := HY.out
      gi_wp2
      refine hR.mono ?_
      rintro x W3 ⟨rfl, hJ3⟩
      gi_wp2
      go_roundw
      case rel => exact ⟨k + 1, by go_num, by omega, hJ3⟩
      case measure => simp [intOf]; omega
    · obtain rfl : k = len := by omega
      gi_wp2
      go_end0
      exact ⟨⟨_, rfl⟩, hj⟩
/-- slices.All. -/
theorem slall_any (a : Option Addr) (len cap : Nat) (w : World) : Calls Try.prog 35 #[.slice a len cap] w fun e w' => e = .returned (.func (.func 61) #[] #[.pointer (some ⟨w.heap.size, 0, none⟩)]) ∧ w' = w.alloc (.cells #[.slice a len cap] 46) := by
  go_enter Try.func35, Try.ntmps35
  go_wp2
  go_ret
  exact ⟨rfl, rfl⟩
theorem run_catt (a : Option Addr) (len cap : Nat) (hlc : len ≤ cap) (ax : Option Addr) (c : Nat) (ty : TypeId) (w : World) : (Builtin.append_ #[46, 46] ty #[.slice a len cap, .slice ax 0 c]).run Try.prog w = .ok (.slice a len cap) w := by
  have hst : ∀ (p : Addr) (w : World), (storeCells p []).run Try.prog w = .ok () w := fun _ _ => rfl
  cases ax <;> cases a <;> simp [hlc, hst, Builtin.append_, run_underlying Try.underlying46, Builtin.lenOf, Builtin.firstCells, Try.sizeOf9, loadCells, loadCellsFrom]
/-- 'v = append(v, x...)', v a row of texts of the call's own, x any other one, be it empty. -/
theorem wp_catt {ops : Array Oper} {rest : List Oper} {o : Oper} {a : Act} {Q : Exit → Act → World → Prop} {wr : World} (hgd : o.guard = none) (s x : Operand)
    (ho : o.op = .call { callee := .builtin .append, args := #[s, x], argTypes := #[46, 46] }) {base : Nat} {v : Value} {l L : List (List UInt8)} (hown : OwnE rowT wr base v l)
    {ax : Option Addr} {n c : Nat} (hs : a.eval s = v) (hx : a.eval x = .slice ax n c) (hI : IsE rowT wr ax n L) (hl : l.length + L.length ≤ 1000000000) (hb : base ≤ wr.heap.size)
    (h : ∀ v' w', OwnE rowT w' base v' (l ++ L) → wr.grownBy w' v.ownBlock → wpList Try.prog ops Q rest (a.put o.dst v') w') :
    wpList Try.prog ops Q (o :: rest) a wr := by
  by_cases h0 : L = []
  · subst h0
    obtain rfl : n = 0 := hI.1
    obtain ⟨va, vc, hv, _, hlc⟩ := hown.is
    refine wpList_plain hgd fun _ hK => ?_
    have e : (execOp a.eval o).run Try.prog wr = .ok (.value v) wr := by
      rw [hv] at hs ⊢
      unfold execOp
      simp [ho, resolve, invoke, builtin, hs, hx, run_catt _ _ _ hlc, Result.andThen]
    unfold Oper.wp
    rw [e, Oper.upon_value]
    exact hK _ _ (h v wr (by rw [List.append_nil]; exact hown) (World.grownBy.refl _ _))
  · exact wp_catE (T := rowT) hgd s x ho hown hs hx hI h0 hl hb fun v' w' h1 h2 _ => h v' w' h1 h2
def ClPost (w0 : World) (len : Nat) (L : List (List UInt8)) (e : Ending) (w' : World) : Prop := ∃ a' cap', e = .returned (.slice a' len cap') ∧ IsT w' a' len L ∧ Keeps w0 w'
/-- slices.Clone of a list of texts: a list of the same ones. -/
theorem slclone_any (w0 : World) (a : Option Addr) (len cap : Nat) (L : List (List UInt8)) (w : World) (hI : IsT w a len L) (hL : len ≤ 1000000) (hnil : a = none → len = 0 ∧ cap = 0) (hk : Keeps w0 w) :
    Calls Try.prog 36 #[.slice a len cap] w (ClPost w0 len L) := by
  obtain ⟨rfl, _⟩ := id hI
  cases a with
  | none =>
    obtain ⟨hL0, rfl⟩ := hnil rfl
    obtain rfl : L = [] := List.length_eq_zero_iff.1 hL0
    have he : ∀ w : World, (binOp .eql 46 (.slice none 0 0) (.slice none 0 0)).run Try.prog w = .ok (.bool true) w := fun w => Lib.run_eql_slice_nil_nil w _ _ Try.underlying46
    go_enter Try.func36, Try.ntmps36
    go_wp2
    go_ret
    exact ⟨_, _, rfl, hI, hk⟩
  | some x =>
    obtain ⟨x1, x2, x3⟩ := x
    have he : ∀ w : World, (binOp .eql 46 (.slice (some ⟨x1, x2, x3⟩) L.length cap) (.slice none 0 0)).run Try.prog w = .ok (.bool false) w := fun w => Lib.run_eql_slice_nil w _ _ _ _ _ _ _ Try.underlying46
    have HE := Lib.hid (show OwnE rowT (w.alloc (.cells #[] 9)) w.heap.size (.slice (some ⟨w.heap.size, 0, none⟩) 0 0) [] from World.ownsRow_lit w #[] 0 (Nat.le_refl _) (by decide) rfl)
    have HI := Lib.hid (hI.row.keeps ((Keeps.refl w).alloc (.cells #[] 9)))
    have HKK := Lib.hid (hk.alloc (.cells #[] 9))
    have HB := Lib.hid (Below.size hk)
    clear hI hk hnil
    go_enter Try.func36, Try.ntmps36
    go_wp2_with (refine wp_catt rfl _ _ rfl HE.out rfl rfl HI.out (by simp; omega) (by simp) ?_; intro v' w' h1 h2; obtain ⟨a', c', e1, e2, e3⟩ := h1.is; have HR := Lib.hid (e2.texts); have HV := Lib.hid e1; have HG := Lib.hid (HKK.out.grown h2 (fun k hk => by have := HE.out.block k hk; have := HB.out; omega)); clear h1 h2 e2 e3; subst e1)
    go_ret
    exact ⟨_, _, rfl, HR.out, HG.out⟩
def AllPost (w0 : World) (len : Nat) (L : List (List UInt8)) (e : Ending) (w' : World) : Prop := ∃ Bt Bs a' cap', e = .returned (.func (.func 37) #[] #[.pointer (some ⟨Bt, 0, none⟩)]) ∧
  w'.cell? ⟨Bt, 0, none⟩ = some (.func (.func 61) #[] #[.pointer (some ⟨Bs, 0, none⟩)]) ∧ w'.cell? ⟨Bs, 0, none⟩ = some (.slice a' len cap') ∧ IsT w' a' len L ∧ Keeps w0 w'
theorem mpall_any (w0 : World) (a : Option Addr) (len cap : Nat) (L : List (List UInt8)) (w : World) (hI : IsT w a len L) (hL : len ≤ 1000000) (hnil : a = none → len = 0 ∧ cap = 0) (hk : Keeps w0 w) :
    Calls Try.prog 21 #[.slice a len cap] w (AllPost w0 len L) := by
  have HC := Lib.hid (slclone_any w0 a len cap L w hI hL hnil hk)
  unfold ClPost at HC
  clear hI hnil hk
  go_enter Try.func21, Try.ntmps21
  go_wp2_with (first | (go_at_call 36; refine HC.out.mono ?_; rintro _ w1 ⟨a', c', rfl, h1, k1⟩; have c0 := cell_new1 w1 (.slice a' len c') 46; have HI1 := Lib.hid h1; have HK1 := Lib.hid k1; clear h1 k1) | (go_at_call 35; refine (slall_any a' len c' w1).mono ?_; rintro _ _ ⟨rfl, rfl⟩))
  go_ret
  have c1 := cell_new1 (w1.alloc (.cells #[.slice a' len c'] 46)) (.func (.func 61) #[] #[.pointer (some ⟨w1.heap.size, 0, none⟩)]) 71
  rw [World.size_alloc] at c1
  exact ⟨_, _, a', c', rfl, c1.1, cell_alloc1 _ c0.1, HI1.out.keeps (((Keeps.refl w1).alloc _).alloc _), (HK1.out.alloc _).alloc _⟩
/-- What lies from block B on is as it was. -/
def Aft (B : Nat) (W W' : World) : Prop := W.heap.size ≤ W'.heap.size ∧ ∀ k, B ≤ k → k < W.heap.size → W'.heap[k]? = W.heap[k]?
theorem Aft.trans {B : Nat} {W W' W'' : World} (h : Aft B W W') (k : Aft B W' W'') : Aft B W W'' :=
  ⟨Nat.le_trans h.1 k.1, fun j hj hl => (k.2 j hj (Nat.lt_of_lt_of_le hl h.1)).trans (h.2 j hj hl)⟩
theorem Aft.keeps {B : Nat} {W W' : World} (h : Keeps W W') : Aft B W W' := ⟨Below.size h, fun k _ hl => Below.block h k hl⟩
theorem Aft.refl (B : Nat) (W : World) : Aft B W W := ⟨Nat.le_refl _, fun _ _ _ => rfl⟩
theorem Aft.only {B b : Nat} {W W' : World} (h : Only b W W') (hb : b < B) : Aft B W W' := ⟨h.size, fun k hk hl => h.block k hl (by omega)⟩
theorem KeepsOthers.below {W W' : World} (h : Keeps W W') : KeepsOthers W W' := ⟨Below.size h, fun k _ hk _ => (Below.block h k (Array.getElem?_eq_some_iff.1 hk).1).trans hk⟩
/-- The iterator over the parts of a list: J k holds ahead of place k. -/
theorem all1_in (l1 Bt Bs : Nat) (a : Option Addr) (len cap : Nat) (L : List (List UInt8)) (hL : len ≤ 1000000) (hsz : ∀ t ∈ L, t.length ≤ 1000000) (w : World) (J : Nat → World → Prop)
    (hJc : ∀ k W, J k W → W.cell? ⟨Bs, 0, none⟩ = some (.slice a len cap) ∧ IsT W a len L)
    (hJs : ∀ k W W', J k W → Below w.heap.size W W' → J k W')
    (hY1 : ∀ k W, k < len → J k W → (dcP (L.getD k [])).2 ≠ 0 → J (k + 1) W)
    (hY2 : ∀ m k W, k < len → J k W → w.heap.size ≤ W.heap.size → (dcP (L.getD k [])).2 = 0 → YieldAt Fence.wide m Try.prog l1 #[.int .i64 (k : Int), prV (dcP (L.getD k [])).1] W fun x W' => x = .returned (.bool true) ∧ J (k + 1) W' ∧ KeepsOthers W W' ∧ Aft w.heap.size W W')
    (hT : w.cell? ⟨Bt, 0, none⟩ = some (.func (.func 61) #[] #[.pointer (some ⟨Bs, 0, none⟩)])) (h0 : J 0 w) :
    CallsIn Fence.wide 5 Try.prog 37 #[.func (.yield l1) #[] #[], .pointer (some ⟨Bt, 0, none⟩)] w fun x W' => (∃ v, x = .returned v) ∧ J len W' := by
  refine callsIn_of_wp_marks Try.func37 rfl trivial ?_ rfl
  simp only [Try.ntmps37, List.size_toArray, List.length_cons, List.length_nil, Nat.reduceAdd, Nat.reduceSub, Array.replicate_succ, Array.replicate_zero, List.push_toArray, List.append_toArray, List.nil_append, List.cons_append]
  have c0 := cell_new1 w (.func (.yield l1) #[] #[]) 74
  have hT1 := cell_alloc1 (.cells #[.func (.yield l1) #[] #[]] 74) hT
  have k1 : Keeps w (w.alloc (.cells #[.func (.yield l1) #[] #[]] 74)) := (Keeps.refl w).alloc _
  have j1 := hJs 0 w _ h0 k1
  have z1 : (w.alloc (.cells #[.func (.yield l1) #[] #[]] 74)).heap.size = w.heap.size + 1 := World.size_alloc _ _
  gi_wp2
  obtain ⟨w1, hw1⟩ : ∃ w1, w.alloc (.cells #[.func (.yield l1) #[] #[]] 74) = w1 := ⟨_, rfl⟩
  obtain ⟨X, hX⟩ : ∃ X, w.heap.size = X := ⟨_, rfl⟩
  rw [hw1] at c0 hT1 k1 j1 z1 ⊢
  rw [hX] at c0 z1 hJs hY2 ⊢
  clear hw1 hT h0
  refine wpIn_range (gf := 61) rfl (enters_of Try.func61 (by kernel_rfl) rfl) (fun W => J len W ∧ X ≤ W.heap.size) ?hit ?done
  case hit =>
    intro fn r hr hL2
    rw [z1] at hL2 ⊢
    have hW1 : Keeps w1 ((w1.alloc (.deferred (some []))).alloc (.loop r)) := ((Keeps.refl w1).alloc _).alloc _
    refine (slall1_in (5 - 1) (by omega) (X + 1 + 1) Bs a len cap L hL (fun k W => Lp (X + 1) (X + 1 + 1) r W ∧ J k W ∧ W.cell? ⟨X, 0, none⟩ = some (.func (.yield l1) #[] #[]) ∧ X + 3 ≤ W.heap.size) (fun k W hJ => (hJc k W hJ.2.1).2) ?hY _ ?_ ?_).mono fun x W' hh => ⟨hh.1, hh.2.1, hh.2.2.1, Nat.le_trans (Nat.le_add_right X 3) hh.2.2.2.2⟩
    case hY =>
      rintro k W hk ⟨hl, hj, hx, hz⟩
      have hkL : k < L.length := by rw [← (hJc k W hj).2.1]; exact hk
      have hks : (st (L.getD k [])).size ≤ 1000000 := by
        rw [st_size, List.getD_eq_getElem?_getD, List.getElem?_eq_getElem hkL]; exact hsz _ (List.getElem_mem hkL)
      have HD := Lib.hid (fun W => mpdecode_any W (st (L.getD k [])) W hks (Keeps.refl W))
      unfold PdcPost at HD
      simp only [ls_st] at HD
      have bel : ∀ A A' : World, Keeps A A' → X ≤ A.heap.size → Below X A A' := fun A A' h hz => Below.mono h hz
      have belo : ∀ (A A' : World) (b : Nat), Only b A A' → X ≤ b → X ≤ A.heap.size → Below X A A' := fun A A' b h hb hz => ⟨h.os, h.tape, h.output, h.size, fun i hi => h.block i (by omega) (by omega)⟩
      have hj4 := hJs k W _ hj (belo _ _ _ (put_only W (.loop { r with state := .busy })) (by omega : X ≤ X + 1 + 1) (by omega))
      have hx4 := ((put_only W (.loop { r with state := .busy }) (l := X + 1 + 1)).cell (p := ⟨X, 0, none⟩) (there_cell hx) (by show X ≠ X + 1 + 1; omega)).trans hx
      have hz4 : X + 3 ≤ (W.putObj (X + 1 + 1) (.loop { r with state := .busy })).heap.size := Nat.le_trans hz (put_only W (.loop { r with state := .busy }) (l := X + 1 + 1)).size
      obtain ⟨s, hs⟩ : ∃ s, st (L.getD k []) = s := ⟨_, rfl⟩
      rw [hs] at HD ⊢
      have HY1 := Lib.hid (hY1 k)
      have HY2 := Lib.hid (fun m W => hY2 m k W)
      obtain ⟨⟨P, e⟩, hq⟩ : ∃ q, dcP (L.getD k []) = q := ⟨_, rfl⟩
      simp only [hq] at HD HY1 HY2
      clear hq hs hks hY1 hY2
      refine YieldAt.mono (yield_round hl (by omega) (by rw [hr]) (by rw [hr]) (by rw [hr]; rfl) (a₁ := ?a1) (fun W' => J (k + 1) W' ∧ W'.cell? ⟨X, 0, none⟩ = some (.func (.yield l1) #[] #[]) ∧ X + 3 ≤ W'.heap.size) ?_ ?_) ?_
      case a1 => exact { tmps := #[.func (.yield l1) #[] #[], .pointer (some ⟨Bt, 0, none⟩), .pointer (some ⟨X, 0, none⟩), .int .i64 (k : Int), .string s, undef, undef, .func (.func 61) #[] #[.pointer (some ⟨Bs, 0, none⟩)], .int .i64 (k : Int), .string s, undef, undef, undef, undef, undef, undef, undef, undef, undef, undef, undef, undef, undef, undef], defers := [] }
      · intro K hK
        rw [hr]
        gi_wp2
        exact hK
      · generalize W.putObj (X + 1 + 1) (.loop { r with state := .busy }) = W4 at *
        rw [hr]
        have HJ4 := Lib.hid hj4
        clear hj4 hj hx hz hl
        gi_wp2
        refine ⟨trivial, CallsIn.inRound _ (callsIn_wide.2 ?_)⟩
        refine (HD.out _).mono ?_
        rintro _ w5 ⟨rfl, k5⟩
        by_cases he : e = 0
        · subst he
          have HK5 := Lib.hid k5
          obtain ⟨mac, ⟨dt, tb, fr, ad⟩, txt⟩ := P
          have k6 := k5.alloc (.cells #[.int .i64 mac, .int .i64 dt, .bool tb, .bool fr, .int .i64 ad, .string txt] 25)
          have j6 := hJs k _ _ HJ4.out (bel _ _ k6 (by omega))
          have hz6 := Below.size k6
          have hx6 := (Below.cell k6 (p := ⟨X, 0, none⟩) (there_cell hx4)).trans hx4
          obtain ⟨fn, tmps, assign, body, hy, hR⟩ := HY2.out 2 _ hk j6 (by omega) rfl
          have HK6 := Lib.hid k6
          have HX6 := Lib.hid hx6
          clear k5 k6 j6
          gi_wp2
          refine RoundIn.mono (F := Fence.wide.inRound (X + 1 + 1)) hR ?_
          rintro x7 w7 ⟨rfl, hJ7, ho7, ha7⟩
          gi_wp2
          refine ⟨(KeepsOthers.below HK6.out).trans ho7, hJ7, ?_, ?_⟩
          · exact (World.cell?_of_block (a := ⟨X, 0, none⟩) (ha7.2 X (Nat.le_refl _) (there_cell HX6.out))).trans HX6.out
          · have := ha7.1
            omega
        · have heb : (e == 0) = false := by simpa using he
          have HK5 := Lib.hid k5
          obtain ⟨mac, ⟨dt, tb, fr, ad⟩, txt⟩ := P
          clear k5
          gi_wp2
          refine ⟨fun _ h => (by cases h), ?_⟩
          gi_wp2
          have k6 := HK5.out.alloc (.cells #[.int .i64 mac, .int .i64 dt, .bool tb, .bool fr, .int .i64 ad, .string txt] 25)
          have j6 := hJs k _ _ HJ4.out (bel _ _ k6 (by omega))
          refine ⟨KeepsOthers.below k6, HY1.out _ hk j6 he, ?_, (by have z6 := Below.size k6; rw [World.size_alloc] at z6; omega)⟩
          exact (Below.cell k6 (p := ⟨X, 0, none⟩) (there_cell hx4)).trans hx4
      · rintro x W'' ⟨rfl, h1, W', ⟨h2, h3, h4⟩, rfl, h5⟩
        refine ⟨rfl, h1, hJs (k + 1) _ _ h2 (belo _ _ _ (put_only _ _) (by omega : X ≤ X + 1 + 1) (by omega)), ?_, ?_⟩
        · exact ((put_only W' (.loop r) (l := X + 1 + 1)).cell (p := ⟨X, 0, none⟩) (there_cell h3) (by show X ≠ X + 1 + 1; omega)).trans h3
        · exact Nat.le_trans h4 (put_only W' (.loop r) (l := X + 1 + 1)).size
    · obtain ⟨hc1, _⟩ := hJc 0 w1 j1
      exact (Below.cell hW1 (p := ⟨Bs, 0, none⟩) (there_cell hc1)).trans hc1
    · refine ⟨hL2, hJs 0 _ _ j1 (Below.mono hW1 (by omega)), (Below.cell hW1 (p := ⟨X, 0, none⟩) (there_cell c0.1)).trans c0.1, ?_⟩
      have y1 := World.size_alloc w1 (.deferred (some []))
      have y2 := World.size_alloc (w1.alloc (.deferred (some []))) (.loop r)
      omega
  case done =>
    intro W o ⟨hE, hX0⟩ hd
    have belo : ∀ (A A' : World) (b : Nat), Only b A A' → X ≤ b → X ≤ A.heap.size → Below X A A' := fun A A' b h hb hz => ⟨h.os, h.tape, h.output, h.size, fun i hi => h.block i (by omega) (by omega)⟩
    have hE2 := hJs len _ _ hE (belo _ _ _ (put_only (l := w1.heap.size + 1) W o) (by omega) hX0)
    have hX2 := Nat.le_trans hX0 (put_only (l := w1.heap.size + 1) W o).size
    generalize W.putObj (w1.heap.size + 1) o = W5 at *
    clear hE
    gi_wp2
    have hE3 := hJs len _ _ hE2 (belo _ _ _ (put_only (l := w1.heap.size) W5 (.deferred none)) (by omega) hX2)
    refine ⟨by simp, .inl ⟨_, _, rfl, run_takeDeferred hd, ?_⟩⟩
    exact ⟨_, results_none rfl _ _ _, ⟨_, rfl⟩, hE3⟩
end Go.Proofs.Ytbkodlinfmflkaa
