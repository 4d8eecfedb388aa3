/-
  What At of package poly answers: for texts of up to a million bytes; the memory that was there stays.
-/
import Derived.Test.YtdlcloenihkkgaaPolyImpF
namespace Go.Proofs.Ytdlcloenihkkgaa
open Go.RowKit Go.Shelf Gf
set_option maxRecDepth 100000
attribute [local go_sem] Oper.semAt_some

theorem FieldAt.grown {fb : Nat} {A B : World} {row : Option Nat} (h : FieldAt fb A) (hg : A.grownBy B row) (hr : ∀ r, row = some r → ∃ o : Obj, A.heap[r]? = some o ∧ o.isCells = false) : FieldAt fb B :=
  ⟨Nat.lt_of_lt_of_le h.old hg.size, fun i hi => cell_kept (h.ex i hi) hg hr, fun a h1 h2 => cell_kept (h.lg a h1 h2) hg hr⟩
/-- What a value becomes by one more coefficient. -/
def hornS (p : List UInt8) (x : UInt8) (v : UInt8) (i : Nat) : UInt8 := fm v x ^^^ cf p i
def horn (p : List UInt8) (x : UInt8) (l : List Nat) : UInt8 := l.foldl (hornS p x) 0
theorem horn_snoc (p : List UInt8) (x : UInt8) (l : List Nat) (i : Nat) : horn p x (l ++ [i]) = fm (horn p x l) x ^^^ cf p i := by
  unfold horn; rw [List.foldl_append]; rfl
theorem horn_dn (p : List UInt8) (x : UInt8) : ∀ k, k ≤ p.length → horn p x (dn p.length k) = pat (p.drop (p.length - k)) x
  | 0, _ => by rw [Nat.sub_zero, List.drop_length]; rfl
  | k + 1, h => by
    rw [dn_succ, horn_snoc, horn_dn p x k (by omega)]
    rw [List.drop_eq_getElem_cons (show p.length - (k + 1) < p.length by omega), pat_cons, fm_comm, xor_c, ← cf_lt]
    rw [show p.length - (k + 1) + 1 = p.length - k by omega, show p.length - (k + 1) = p.length - 1 - k by omega]
set_option maxRecDepth 100000 in
set_option maxHeartbeats 4000000 in
theorem pat_in (p : ByteArray) (x : UInt8) (hp : p.size ≤ 1000000) (w : World) :
    CallsIn Fence.wide 5 Try.prog 48 #[.string p, .int .u8 (x.toNat : Int)] w fun e W' => e = .returned (.int .u8 ((pat (ls p) x).toNat : Int)) ∧ Below w.heap.size w W' := by
  refine callsIn_of_wp_marks Try.func48 rfl trivial ?_ rfl
  simp only [Try.ntmps48, List.size_toArray, List.length_cons, List.length_nil, Nat.reduceAdd, Nat.reduceSub, Array.replicate_succ, Array.replicate_zero, List.push_toArray, List.append_toArray, List.nil_append, List.cons_append]
  gi_wp2_with fail
  refine ⟨trivial, (callsIn_wide.2 (new_any _)).mono ?_⟩
  rintro e w1 ⟨rfl, hf, hbel⟩
  have cx0 : ((w.alloc (.cells #[.string p] 9)).alloc (.cells #[.int .u8 (x.toNat : Int)] 5)).cell? ⟨w.heap.size + 1, 0, none⟩ = some (.int .u8 (x.toNat : Int)) := by
    have h := (cell_new1 (w.alloc (.cells #[.string p] 9)) (.int .u8 (x.toNat : Int)) 5).1
    rw [World.size_alloc] at h; exact h
  have cp : w1.cell? ⟨w.heap.size, 0, none⟩ = some (.string p) := (hbel.cell (p := ⟨w.heap.size, 0, none⟩) (by simp; omega)).trans (cell_alloc1 (.cells #[.int .u8 (x.toNat : Int)] 5) (cell_new1 w (.string p) 9).1)
  have cx : w1.cell? ⟨w.heap.size + 1, 0, none⟩ = some (.int .u8 (x.toNat : Int)) := (hbel.cell (p := ⟨w.heap.size + 1, 0, none⟩) (by simp)).trans cx0
  have b1 : Below w.heap.size w w1 := (((Below.refl _ w).alloc (Nat.le_refl _) _).alloc (by simp) _).trans (hbel.mono (by simp; omega))
  have hold := hf.old
  simp only [World.size_alloc] at hf hold
  obtain ⟨s, hs⟩ : ∃ s, w.heap.size = s := ⟨_, rfl⟩
  obtain ⟨fb, hfb⟩ : ∃ fb, s + 1 + 1 = fb := ⟨_, rfl⟩
  rw [hs, hfb] at hf hold
  rw [hs] at cp cx b1
  simp only [World.size_alloc, hs, hfb]
  clear cx0 hbel
  have cp2 : ((w1.alloc (.cells #[.pointer (some ⟨fb, 0, none⟩)] 46)).alloc (.cells #[.int .u8 0] 5)).cell? ⟨s, 0, none⟩ = some (.string p) := cell_alloc1 _ (cell_alloc1 _ cp)
  gi_wp2_with fail
  refine ⟨trivial, (back_in Fence.wide _ trivial rfl _ _).mono ?_⟩
  rintro e w2 ⟨rfl, rfl⟩
  clear cp2
  gi_wp2
  obtain ⟨A1, hA1⟩ : ∃ A1 : Obj, A1 = .cells #[.pointer (some ⟨fb, 0, none⟩)] 46 := ⟨_, rfl⟩
  obtain ⟨A2, hA2⟩ : ∃ A2 : Obj, A2 = .cells #[.int .u8 0] 5 := ⟨_, rfl⟩
  obtain ⟨A3, hA3⟩ : ∃ A3 : Obj, A3 = .cells #[.int .i64 (p.size : Int)] 3 := ⟨_, rfl⟩
  rw [← hA1, ← hA2, ← hA3]
  have f1 : ((((w1.alloc A1).alloc A2).alloc A3).cell? ⟨w1.heap.size, 0, none⟩ = some (.pointer (some ⟨fb, 0, none⟩))) := cell_alloc1 _ (cell_alloc1 _ (by rw [hA1]; exact (cell_new1 w1 _ _).1))
  have f2' : ((w1.alloc A1).alloc A2).cell? ⟨w1.heap.size + 1, 0, none⟩ = some (.int .u8 0) ∧ ((w1.alloc A1).alloc A2).frozen? ⟨w1.heap.size + 1, 0, none⟩ = false := by
    have h := cell_new1 (w1.alloc A1) (.int .u8 0) 5
    rw [World.size_alloc] at h; rw [hA2]; exact h
  have f2 := cell_alloc1 A3 f2'.1
  have z2 := frozen_alloc1 A3 f2'.1 f2'.2
  have f3 : ((((w1.alloc A1).alloc A2).alloc A3).cell? ⟨w1.heap.size + 1 + 1, 0, none⟩ = some (.int .i64 (p.size : Int))) := by
    have h := (cell_new1 ((w1.alloc A1).alloc A2) (.int .i64 (p.size : Int)) 3).1
    rw [World.size_alloc, World.size_alloc] at h; rw [hA3]; exact h
  have f4 := cell_alloc1 A3 (cell_alloc1 A2 (cell_alloc1 A1 cp))
  have f5 := cell_alloc1 A3 (cell_alloc1 A2 (cell_alloc1 A1 cx))
  have ba : Below w1.heap.size w1 (((w1.alloc A1).alloc A2).alloc A3) := (((Below.refl _ w1).alloc (Nat.le_refl _) A1).alloc (by simp) A2).alloc (by simp; omega) A3
  have ff := hf.below hf.old ba
  have bb : Below s w (((w1.alloc A1).alloc A2).alloc A3) := b1.trans (ba.mono (by have := b1.size; omega))
  have hsz : (((w1.alloc A1).alloc A2).alloc A3).heap.size = w1.heap.size + 1 + 1 + 1 := by simp
  generalize ((w1.alloc A1).alloc A2).alloc A3 = w4 at *
  have hc1 : fb < w1.heap.size := hold
  clear hA1 hA2 hA3 f2' ba b1 cp cx hf hold
  generalize w1.heap.size = c1 at *
  refine wpIn_rangeFunc_ownF rfl (by omega) (gf := 76) (lb := #[.pointer (some ⟨c1 + 1 + 1, 0, none⟩)]) rfl trivial (enters_of Try.func76 (by kernel_rfl) rfl)
    (back_stops Fence.wide (5 - 1) trivial rfl (by omega) (c1 + 1 + 1) p.size hp w4 (by omega) f3) kpB_t (kpB_b (by omega)) (Below.refl _ _) (fun _ => rfl)
    (fun pre W => (W.cell? ⟨s, 0, none⟩ = some (.string p) ∧ W.cell? ⟨s + 1, 0, none⟩ = some (.int .u8 (x.toNat : Int)) ∧ W.cell? ⟨c1, 0, none⟩ = some (.pointer (some ⟨fb, 0, none⟩)) ∧ W.cell? ⟨c1 + 1, 0, none⟩ = some (.int .u8 ((horn (ls p) x (vals pre)).toNat : Int)) ∧ W.frozen? ⟨c1 + 1, 0, none⟩ = false ∧ FieldAt fb W ∧ c1 + 1 + 1 < W.heap.size) ∧ Below s w W)
    (fun _ _ _ => False)
    (OwnFrom.and (Own.from (fun q A B row h hg hr => ⟨cell_kept h.1 hg hr, cell_kept h.2.1 hg hr, cell_kept h.2.2.1 hg hr, cell_kept h.2.2.2.1 hg hr, (frozen_kept h.2.2.2.1 hg hr).trans h.2.2.2.2.1, h.2.2.2.2.2.1.grown hg hr, Nat.lt_of_lt_of_le h.2.2.2.2.2.2 hg.size⟩) _) (ownFrom_below (by omega) (by omega)))
    (fun c _ _ _ _ h _ _ => h)
    ⟨⟨f4, f5, f1, f2, z2, ff, by omega⟩, bb⟩
    (fun i => { tmps := #[.string p, .int .u8 (x.toNat : Int), .pointer (some ⟨s, 0, none⟩), .pointer (some ⟨s + 1, 0, none⟩), .int .u8 0, .pointer (some ⟨c1, 0, none⟩), .pointer (some ⟨c1 + 1, 0, none⟩), .int .i64 (i.val : Int), .pointer (some ⟨fb, 0, none⟩), .string p, .int .i64 (p.size : Int), .func (.func 76) #[] #[.pointer (some ⟨c1 + 1 + 1, 0, none⟩)], .int .i64 (i.val : Int), undef, undef, undef, undef, undef, undef, undef, undef, undef, undef], defers := [] }) ?assign ?body ?done ?stop
  case assign =>
    intro l i W K hK
    unfold encB
    gi_wp2
    exact hK
  case body =>
    rintro l pre ⟨k, hkl⟩ W ⟨⟨g4, g5, g1, g2, gz, gf, gs⟩, hB⟩ _
    have hgt := ls_get p k hkl
    have hk1 : (k : Int) < (p.size : Int) := by omega
    have HSN := Lib.hid (show vals (pre ++ [⟨k, hkl⟩]) = vals pre ++ [k] from vals_snoc pre ⟨k, hkl⟩)
    generalize hv : horn (ls p) x (vals pre) = v at *
    have HV := Lib.hid hv
    generalize hcc : cf (ls p) k = c at *
    have HCC := Lib.hid hcc
    clear hv hcc
    obtain ⟨t, ht⟩ : ∃ t, fm v x = t := ⟨_, rfl⟩
    obtain ⟨z, hz⟩ : ∃ z, t ^^^ c = z := ⟨_, rfl⟩
    have hft : ∀ W' : World, FieldAt fb W' → Calls Try.prog 59 #[.pointer (some ⟨fb, 0, none⟩), .int .u8 (v.toNat : Int), .int .u8 (x.toNat : Int)] W' fun e w' => e = .returned (.int .u8 (t.toNat : Int)) ∧ Eqv W' w' := fun W' h => by rw [← ht]; exact fmul8 fb v x W' h
    have hat : ∀ (g : Nat) (W' : World), W'.cell? ⟨g, 0, none⟩ = some (.int .u8 (t.toNat : Int)) → W'.cell? ⟨g, 1, none⟩ = some (.int .u8 (c.toNat : Int)) → Calls Try.prog 56 #[.slice (some ⟨g, 0, none⟩) 2 2] W' fun e w' => e = .returned (.int .u8 (z.toNat : Int)) ∧ W' = w' := fun g W' h k => by rw [← hz]; exact add8 g t c W' h k
    have HT := Lib.hid ht
    have HZ := Lib.hid hz
    have HFT := Lib.hid hft
    have HAT := Lib.hid hat
    have HGF := Lib.hid gf
    clear ht hz hft hat gf
    obtain ⟨X, hX⟩ : ∃ X : Obj, X = .cells #[.int .u8 (t.toNat : Int), .int .u8 (c.toNat : Int)] 5 := ⟨_, rfl⟩
    obtain ⟨ad, had⟩ : ∃ ad : Addr, ad = ⟨c1 + 1, 0, none⟩ := ⟨_, rfl⟩
    have x0 : (W.alloc X).cell? ⟨W.heap.size, 0, none⟩ = some (.int .u8 (t.toNat : Int)) := by subst hX; rw [World.cell?_alloc_new]; rfl
    have x1 : (W.alloc X).cell? ⟨W.heap.size, 1, none⟩ = some (.int .u8 (c.toNat : Int)) := by subst hX; rw [World.cell?_alloc_new]; rfl
    have x2 := cell_alloc1 X g2
    have x3 := frozen_alloc1 X g2 gz
    have HX := Lib.hid hX
    have HAD := Lib.hid had
    clear hX had
    gi_wp2
    refine wpIn_draw (by kernel_rfl)
      [.pointer (some ⟨fb, 0, none⟩), .int .u8 (v.toNat : Int), .int .u8 (x.toNat : Int), .int .u8 (t.toNat : Int), .string p, .int .i64 (k : Int), .int .u8 (c.toNat : Int), .slice (some ⟨W.heap.size, 0, none⟩) 2 2, .int .u8 (z.toNat : Int), undef]
      (Turn 7 9 (Eqv W) (Eqv (W.alloc X)) (Eqv ((W.alloc X).setCell ad (.int .u8 (z.toNat : Int)))))
      rfl (by kernel_rfl) (fin := ?fin) ?hfin (Turn.start (Eqv.drew W)) ?each ?hend
    case hfin => simp [seqA, dstOf, Act.put]; rfl
    case each =>
      refine ⟨?_, ?_, ?_, ?_, ?_, ?_, ?_, ?_, ?_, ?_, trivial⟩
      all_goals intro L w5 h0 hd hs hw
      all_goals unfold Does
      all_goals try simp only [Nat.zero_add, Nat.reduceAdd] at h0
      · have hA := hw.1 (hs.no (i := 3) (by kernel_rfl) (hs.no (by kernel_rfl) h0))
        have hc := (hA.cell _).trans g1
        go_simp; exact fun L' k => hw.same (by decide) (by decide) k
      · have hA := hw.1 (hs.no (i := 3) (by kernel_rfl) (hs.no (by kernel_rfl) h0))
        have hc := (hA.cell _).trans g2
        go_simp; exact fun L' k => hw.same (by decide) (by decide) k
      · have hA := hw.1 (hs.no (i := 3) (by kernel_rfl) (hs.no (by kernel_rfl) h0))
        have hc := (hA.cell _).trans g5
        go_simp; exact fun L' k => hw.same (by decide) (by decide) k
      · have hA := hw.1 (hs.no (by kernel_rfl) h0)
        go_simp
        refine (HFT.out w5 (HGF.out.only (b := c1 + 1) (by omega) (Only.eqv hA))).mono ?_
        rintro e w6 ⟨rfl, he⟩
        exact ⟨_, rfl, rfl, fun L' k => hw.keep (by decide) (by decide) k (fun h => h.trans he) (fun h => h.trans he) (fun h => h.trans he)⟩
      · have hA := hw.1 (hs.no (i := 6) (by kernel_rfl) (hs.no (by kernel_rfl) h0))
        have hc := (hA.cell _).trans g4
        go_simp; exact fun L' k => hw.same (by decide) (by decide) k
      · go_simp; exact fun L' k => hw.same (by decide) (by decide) k
      · go_simp; exact fun L' k => hw.same (by decide) (by decide) k
      · have hA := hw.1 h0
        have hz := hA.size
        go_simp
        exact fun L' k => Turn.first (hs.no (i := 8) (by kernel_rfl) (hs.no (by kernel_rfl) h0)) (by decide) k (by rw [HX.out]; exact hA.alloc _)
      · have hB := hw.2.1 (hd 7 (by kernel_rfl)) (hs.no (by kernel_rfl) h0)
        have hc1 := (hB.cell _).trans x0
        have hc2 := (hB.cell _).trans x1
        go_simp
        refine (HAT.out _ w5 hc1 hc2).mono ?_
        rintro e w6 ⟨rfl, rfl⟩
        exact ⟨_, rfl, rfl, fun L' k => hw.same (by decide) (by decide) k⟩
      · have h7 := hs 8 7 (hd 8 (by kernel_rfl)) (by kernel_rfl)
        have hB := hw.2.1 h7 h0
        have hc1 := (hB.cell _).trans x2
        have hc2 := (hB.frozen _).trans x3
        go_simp
        exact fun L' k => Turn.second h7 k (by rw [HAD.out]; exact hB.setCell _ _)
    case hend =>
      intro L w5 hL hw
      have hC := hw.2.2 (hL 9 (by simp))
      have had := HAD.out
      subst had
      have hon : Only (c1 + 1) W w5 := (Only.alloc _ W X).trans ((Only.setCell _ _ _).trans (Only.eqv hC))
      have hsame : (((W.alloc X).setCell ⟨c1 + 1, 0, none⟩ (.int .u8 (z.toNat : Int))).cell? ⟨c1 + 1, 0, none⟩) = some (.int .u8 (z.toNat : Int)) := World.cell?_setCell_same _ _ _ x2
      refine ⟨?_, ?_, ?_⟩
      · refine (KeepsOthers.alloc W X).trans ((KeepsOthers.setCell _ _ _).trans ⟨by rw [hC.heap]; exact Nat.le_refl _, fun k o h _ => by rw [hC.heap]; exact h⟩)
      · exact hon.block _ gs (by omega)
      · refine ⟨⟨(hon.cell (p := ⟨s, 0, none⟩) (by show s < _; omega) (by show s ≠ _; omega)).trans g4, (hon.cell (p := ⟨s + 1, 0, none⟩) (by show s + 1 < _; omega) (by show s + 1 ≠ _; omega)).trans g5, (hon.cell (p := ⟨c1, 0, none⟩) (by show c1 < _; omega) (by show c1 ≠ _; omega)).trans g1, ?_, ?_, HGF.out.only (by omega) hon, Nat.lt_of_lt_of_le gs hon.size⟩, by have h : Keeps w w5 := hon.keeps (show Keeps w W by unfold Keeps; rw [hs]; exact hB) (by omega); unfold Keeps at h; rw [hs] at h; exact h⟩
        · rw [hC.cell, hsame, HSN.out, horn_snoc, HV.out, HCC.out, HT.out, HZ.out]
        · rw [hC.frozen]; simp [x3]
  case done =>
    rintro D ys W hD hys ⟨⟨g4, g5, g1, g2, gz, gf, gs⟩, hB⟩ hK
    have HG := Lib.hid (show horn (ls p) x (vals ys) = pat (ls p) x by
      rw [hys]
      have h := horn_dn (ls p) x (ls p).length (Nat.le_refl _)
      rw [Nat.sub_self, List.drop_zero, ← ls_size] at h; exact h)
    rw [HG.out] at g2
    clear hys
    gi_wp2
    refine ⟨by simp, .inl ⟨_, _, rfl, run_takeDeferred hK, ?_⟩⟩
    refine ⟨.int .u8 ((pat (ls p) x).toNat : Int), ?_, rfl, ?_⟩
    · simp [results, Try.f48, go_sem]
    · rw [hs]; exact hB.trans (belowK_b (w := w4) (by omega) W D _ _ hD hK rfl rfl)
  case stop => rintro D c pre W hD hpre h hK; exact h.elim
theorem pat_big (w0 : World) (p : ByteArray) (x : UInt8) (w : World) (hp : p.size ≤ 1000000) (hk : Keeps w0 w) :
    Calls Try.prog 48 #[.string p, .int .u8 (x.toNat : Int)] w fun e w' => e = .returned (.int .u8 ((pat (ls p) x).toNat : Int)) ∧ Keeps w0 w' :=
  callsIn_wide.1 ((pat_in p x hp w).mono fun _ _ h => ⟨h.1, hk.trans h.2⟩)
end Go.Proofs.Ytdlcloenihkkgaa
