/-
  What addRoot and Roots of package poly answer: for texts of up to ten thousand bytes; the memory that was there stays.
-/
import Derived.Test.YtdlcloenihkkgaaPolyImpG
namespace Go.Proofs.Ytdlcloenihkkgaa
open Go.RowKit Go.Shelf Gf
set_option maxRecDepth 100000
attribute [local go_sem] Oper.semAt_some

/-- What a row becomes by one place of addRoot. -/
def rstep (a : UInt8) (l : List UInt8) (n : Nat) : List UInt8 := l.set n (fm a (cf l n) ^^^ (if 0 < n then cf l (n - 1) else 0))
def rt (a : UInt8) (l : List UInt8) (pre : List Nat) : List UInt8 := pre.foldl (rstep a) l
theorem rt_snoc (a : UInt8) (l : List UInt8) (pre : List Nat) (n : Nat) : rt a l (pre ++ [n]) = rstep a (rt a l pre) n := by unfold rt; rw [List.foldl_append]; rfl
theorem rt_length (a : UInt8) (pre : List Nat) : ∀ l : List UInt8, (rt a l pre).length = l.length := by
  induction pre with
  | nil => intro l; rfl
  | cons n pre ih => intro l; show (rt a (rstep a l n) pre).length = _; rw [ih, rstep, List.length_set]
theorem cf_rt (a : UInt8) (l : List UInt8) : ∀ k, k ≤ l.length → ∀ i, i < l.length → cf (rt a l (dn l.length k)) i = if l.length - k ≤ i then fm a (cf l i) ^^^ (if 0 < i then cf l (i - 1) else 0) else cf l i
  | 0, _, i, hi => by rw [if_neg (by omega)]; rfl
  | k + 1, hk, i, hi => by
    have ih := cf_rt a l k (by omega)
    rw [dn_succ, rt_snoc, rstep, cf_set _ _ _ (by rw [rt_length]; omega)]
    by_cases e : i = l.length - 1 - k
    · rw [if_pos e, ← e, if_pos (show l.length - (k + 1) ≤ i by omega), ih i hi, if_neg (show ¬ l.length - k ≤ i by omega)]
      congr 1
      by_cases h0 : 0 < i
      · simp only [h0, if_true]
        rw [ih (i - 1) (by omega), if_neg (show ¬ l.length - k ≤ i - 1 by omega)]
      · simp only [h0, if_false]
    · rw [if_neg e, ih i hi]
      by_cases h2 : l.length - k ≤ i
      · rw [if_pos h2, if_pos (show l.length - (k + 1) ≤ i by omega)]
      · rw [if_neg h2, if_neg (show ¬ l.length - (k + 1) ≤ i by omega)]
theorem cf_append_zero (l : List UInt8) (i : Nat) : cf (l ++ [0]) i = cf l i := by
  unfold cf
  rw [List.getD_eq_getElem?_getD, List.getD_eq_getElem?_getD, List.getElem?_append]
  by_cases h : i < l.length
  · rw [if_pos h]
  · rw [if_neg h, List.getElem?_eq_none (by omega : l.length ≤ i)]
    cases e : i - l.length with
    | zero => rfl
    | succ n => rfl
theorem conv_x (l : List UInt8) (a : UInt8) (i : Nat) : conv (cf l) (cf [a, 1]) i = fm a (cf l i) ^^^ (if 0 < i then cf l (i - 1) else 0) := by
  rw [conv_comm]
  unfold conv
  rw [sm_front, Nat.sub_zero]
  show fm a (cf l i) ^^^ _ = _
  congr 1
  cases i with
  | zero => rfl
  | succ i =>
    rw [if_pos (by omega), sm_front, sm_zero (fun k _ => by show fm (cf [a, 1] (k + 1 + 1)) _ = 0; rw [cf_big (by simp), zero_fm]), xor_z]
    show fm 1 _ = _
    rw [one_fm]
theorem rt_full {a : UInt8} {l : List UInt8} (ht : trim l = l) (hl : l ≠ []) : rt a (l ++ [0]) (dn (l ++ [0]).length (l ++ [0]).length) = pmul l [a, 1] := by
  have hn : 0 < l.length := List.length_pos_iff.2 hl
  have hlen : (rt a (l ++ [0]) (dn (l ++ [0]).length (l ++ [0]).length)).length = l.length + 1 := by rw [rt_length, List.length_append]; rfl
  have hcf : ∀ i, cf (rt a (l ++ [0]) (dn (l ++ [0]).length (l ++ [0]).length)) i = conv (cf l) (cf [a, 1]) i := fun i => by
    by_cases hi : i < l.length + 1
    · rw [cf_rt a (l ++ [0]) _ (Nat.le_refl _) i (by rw [List.length_append]; exact hi), if_pos (by omega), conv_x, cf_append_zero, cf_append_zero]
    · rw [cf_big (by omega), conv_x, cf_big (p := l) (by omega), fm_zero, if_pos (by omega), cf_big (p := l) (by omega)]; rfl
  refine trim_one (trim_self fun _ => ?_) (pmul_trim _ _) fun i => by rw [hcf, cf_pmul]
  rw [hlen, hcf, conv_x, Nat.add_sub_cancel, cf_big (p := l) (Nat.le_refl _), fm_zero, z_xor, if_pos hn]
  have h := trim_last (p := l) (by rw [ht]; exact hl)
  rw [ht] at h; exact h
set_option maxRecDepth 100000 in
set_option maxHeartbeats 4000000 in
theorem addRoot_in (wf : World) (fb : Nat) (v : Value) (l : List UInt8) (a : UInt8) (w : World) (hf : FieldAt fb wf) (hk : Keeps wf w) (hown : Own w wf.heap.size v l) (hl : l ≠ []) (hll : l.length ≤ 900000) :
    CallsIn Fence.wide 5 Try.prog 40 #[.pointer (some ⟨fb, 0, none⟩), v, .int .u8 (a.toNat : Int)] w fun e W' =>
      ∃ v', e = .returned v' ∧ Own W' wf.heap.size v' (rt a (l ++ [0]) (dn (l ++ [0]).length (l ++ [0]).length)) ∧ Keeps wf W' := by
  obtain ⟨g, cap, hv, hob, hrw⟩ := Rw.of hown hl
  have HRW := Lib.hid hrw
  have HOB := Lib.hid hob
  have hgl : g < w.heap.size := hrw.blk.old
  have hfo := hf.old
  have hsz := Below.size hk
  have hgb : wf.heap.size ≤ g := hrw.1
  have HF := Lib.hid (hf.below hf.old hk)
  have HK := Lib.hid hk
  clear hf hk hrw
  refine callsIn_of_wp_marks Try.func40 rfl trivial ?_ rfl
  simp only [Try.ntmps40, List.size_toArray, List.length_cons, List.length_nil, Nat.reduceAdd, Nat.reduceSub, Array.replicate_succ, Array.replicate_zero, List.push_toArray, List.append_toArray, List.nil_append, List.cons_append]
  refine wpIn_wide.2 ?_
  have hlb : l.length ≤ 1000000000 := by omega
  subst hv
  obtain ⟨w3, hw3⟩ : ∃ w3, ((w.alloc (.cells #[.pointer (some ⟨fb, 0, none⟩)] 46)).alloc (.cells #[.slice (some ⟨g, 0, none⟩) l.length cap] 34)).alloc (.cells #[.int .u8 (a.toNat : Int)] 5) = w3 := ⟨_, rfl⟩
  have e0 := cell_new1 w (.pointer (some ⟨fb, 0, none⟩)) 46
  have e1 := cell_new1 (w.alloc (.cells #[.pointer (some ⟨fb, 0, none⟩)] 46)) (.slice (some ⟨g, 0, none⟩) l.length cap) 34
  have e2 := cell_new1 ((w.alloc (.cells #[.pointer (some ⟨fb, 0, none⟩)] 46)).alloc (.cells #[.slice (some ⟨g, 0, none⟩) l.length cap] 34)) (.int .u8 (a.toNat : Int)) 5
  simp only [World.size_alloc] at e1 e2
  have d0 : w3.cell? ⟨w.heap.size, 0, none⟩ = some (.pointer (some ⟨fb, 0, none⟩)) := by rw [← hw3]; exact cell_alloc1 _ (cell_alloc1 _ e0.1)
  have d1 : w3.cell? ⟨w.heap.size + 1, 0, none⟩ = some (.slice (some ⟨g, 0, none⟩) l.length cap) := by rw [← hw3]; exact cell_alloc1 _ e1.1
  have d1z : w3.frozen? ⟨w.heap.size + 1, 0, none⟩ = false := by rw [← hw3]; exact frozen_alloc1 _ e1.1 e1.2
  have d2 : w3.cell? ⟨w.heap.size + 1 + 1, 0, none⟩ = some (.int .u8 (a.toNat : Int)) := by rw [← hw3]; exact e2.1
  have bel3 : Below w.heap.size w w3 := by rw [← hw3]; exact (((Below.refl _ w).alloc (Nat.le_refl _) _).alloc (by simp) _).alloc (by simp; omega) _
  have sz3 : w3.heap.size = w.heap.size + 1 + 1 + 1 := by rw [← hw3]; simp
  have o3 : Own w3 wf.heap.size (.slice (some ⟨g, 0, none⟩) l.length cap) l := hown.kept (w0 := wf) HK.out bel3
  clear hown hob e0 e1 e2
  obtain ⟨s, hs⟩ : ∃ s, w.heap.size = s := ⟨_, rfl⟩
  rw [hs] at d0 d1 d1z d2 sz3 hgl
  have KB : ∀ w2 : World, (w3.alloc (.cells #[.int .u8 0] 5)).grownBy w2 (Value.ownBlock (.slice (some ⟨g, 0, none⟩) l.length cap)) → (w2.cell? ⟨s, 0, none⟩ = some (.pointer (some ⟨fb, 0, none⟩)) ∧ w2.cell? ⟨s + 1, 0, none⟩ = some (.slice (some ⟨g, 0, none⟩) l.length cap) ∧ w2.frozen? ⟨s + 1, 0, none⟩ = false ∧ w2.cell? ⟨s + 1 + 1, 0, none⟩ = some (.int .u8 (a.toNat : Int))) ∧ FieldAt fb w2 ∧ Keeps wf w2 ∧ s + 1 + 1 + 1 < w2.heap.size := fun w2 hg => by
    have on := Only.grown hg (g := g) rfl
    have sz4 : (w3.alloc (.cells #[.int .u8 0] 5)).heap.size = s + 1 + 1 + 1 + 1 := by rw [World.size_alloc, sz3]
    refine ⟨⟨?_, ?_, ?_, ?_⟩, ?_, ?_, ?_⟩
    · rw [on.cell (p := ⟨s, 0, none⟩) (by show s < _; omega) (by show s ≠ g; omega)]; exact cell_alloc1 _ d0
    · rw [on.cell (p := ⟨s + 1, 0, none⟩) (by show s + 1 < _; omega) (by show s + 1 ≠ g; omega)]; exact cell_alloc1 _ d1
    · rw [on.frozen (p := ⟨s + 1, 0, none⟩) (by show s + 1 < _; omega) (by show s + 1 ≠ g; omega)]; exact frozen_alloc1 _ d1 d1z
    · rw [on.cell (p := ⟨s + 1 + 1, 0, none⟩) (by show s + 1 + 1 < _; omega) (by show s + 1 + 1 ≠ g; omega)]; exact cell_alloc1 _ d2
    · exact ((HF.out.below HF.out.old bel3).below (by rw [sz3]; have := HF.out.old; omega) ((Below.refl _ w3).alloc (Nat.le_refl _) _)).only (by omega) on
    · exact on.keeps ((HK.out.trans bel3).alloc _) hgb
    · have := on.size; omega
  have HKB := Lib.hid KB
  clear KB
  have HD := Lib.hid d1
  clear d0 d1 d1z d2
  have hsz3 : wf.heap.size ≤ w3.heap.size := by omega
  have d1 := HD.out
  go_wp2_with (at_builtin; refine wp_push8g rfl _ _ rfl 0 rfl (s + 1 + 1 + 1) sz3 o3 rfl rfl hlb hsz3 ?_; intro v2 w2 own2 grow2 at2; obtain ⟨⟨c0, c1, c1z, c2⟩, ff, kk, szz⟩ := HKB.out w2 grow2; obtain ⟨g2, cap2, rfl, ob2, rw2⟩ := Rw.of own2 (by simp))
  obtain ⟨M, hM⟩ : ∃ M, l.length + 1 = M := ⟨_, rfl⟩
  have hMI : (l.length : Int) + 1 = (M : Int) := by omega
  rw [hMI, hM]
  refine (callsIn_wide.1 (back_in Fence.wide 0 trivial rfl _ _)).mono ?_
  rintro e w9 ⟨rfl, rfl⟩
  go_wp2
  have hl1 : (l ++ [0]).length = M := by rw [List.length_append]; exact hM
  obtain ⟨l1, hL1⟩ : ∃ l1, l ++ [0] = l1 := ⟨_, rfl⟩
  rw [hL1] at rw2 hl1
  have hg2 : g2 = g ∨ g2 = s + 1 + 1 + 1 + 1 := by
    rcases at2 with h | h
    · left; exact Option.some.inj (h : some g2 = some g)
    · right; exact Option.some.inj (h : some g2 = some (s + 1 + 1 + 1 + 1))
  have hg2l : g2 < w2.heap.size := rw2.blk.old
  have hg2b : wf.heap.size ≤ g2 := rw2.1
  have ssz : s + 1 + 1 + 1 < w2.heap.size := szz
  have on4 : Only (s + 1) w2 (w2.setCell ⟨s + 1, 0, none⟩ (.slice (some ⟨g2, 0, none⟩) M cap2)) := Only.setCell w2 ⟨s + 1, 0, none⟩ _
  obtain ⟨w4, hw4⟩ : ∃ w4, w2.setCell ⟨s + 1, 0, none⟩ (.slice (some ⟨g2, 0, none⟩) M cap2) = w4 := ⟨_, rfl⟩
  have sz4 : w4.heap.size = w2.heap.size := by rw [← hw4]; simp [World.setCell]
  have k1 : w4.cell? ⟨s + 1, 0, none⟩ = some (.slice (some ⟨g2, 0, none⟩) M cap2) := by rw [← hw4]; exact World.cell?_setCell_same _ _ _ c1
  rw [hw4] at on4
  rw [hw4]
  have k0 := (on4.cell (p := ⟨s, 0, none⟩) (by show s < _; omega) (by show s ≠ s + 1; omega)).trans c0
  have k2 := (on4.cell (p := ⟨s + 1 + 1, 0, none⟩) (by show s + 1 + 1 < _; omega) (by show s + 1 + 1 ≠ s + 1; omega)).trans c2
  have kf := ff.only (b := s + 1) (by omega) on4
  have kr := rw2.only (b := s + 1) (by omega) on4
  have kp := on4.keeps kk (by omega)
  obtain ⟨A3, hA3⟩ : ∃ A3 : Obj, A3 = .cells #[.int .i64 (M : Int)] 3 := ⟨_, rfl⟩
  have hn3 := (cell_new1 w4 (.int .i64 (M : Int)) 3).1
  rw [← hA3] at hn3
  rw [← hA3]
  have m0 := cell_alloc1 A3 k0
  have m1 := cell_alloc1 A3 k1
  have m2 := cell_alloc1 A3 k2
  have bl4 : Below w4.heap.size w4 (w4.alloc A3) := (Below.refl _ w4).alloc (Nat.le_refl _) A3
  have mf := kf.below kf.old bl4
  have mr : Rw (w4.alloc A3) wf.heap.size g2 cap2 l1 := kr.block (bl4.block g2 (by omega))
  have mp := kp.alloc A3
  have sz5 : (w4.alloc A3).heap.size = w4.heap.size + 1 := World.size_alloc _ _
  have hfg : fb ≠ g2 := by omega
  have hdis : g2 ≠ s ∧ g2 ≠ s + 1 ∧ g2 ≠ s + 1 + 1 := by omega
  have hM9 : M ≤ 1000000 := by omega
  rw [sz4] at hn3 sz5
  try simp only [sz4]
  clear o3 own2 grow2 at2 c0 c1 c1z c2 kk ff szz on4 hw4 k0 k1 k2 kf kr kp hA3 bl4 rw2 bel3 d1 hw3
  generalize w4.alloc A3 = w5 at *
  generalize w2.heap.size = Bn at *
  refine (wpIn_wide (n := 5)).1 ?_
  refine wpIn_rangeFunc_ownF rfl (by omega) (gf := 76) (lb := #[.pointer (some ⟨Bn, 0, none⟩)]) rfl trivial (enters_of Try.func76 (by kernel_rfl) rfl)
    (back_stops Fence.wide (5 - 1) trivial rfl (by omega) Bn M hM9 w5 (by omega) hn3) kpB_t (kpB_b (by omega)) (Below.refl _ _) (fun _ => rfl)
    (fun pre W => (W.cell? ⟨s, 0, none⟩ = some (.pointer (some ⟨fb, 0, none⟩)) ∧ W.cell? ⟨s + 1, 0, none⟩ = some (.slice (some ⟨g2, 0, none⟩) M cap2) ∧ W.cell? ⟨s + 1 + 1, 0, none⟩ = some (.int .u8 (a.toNat : Int)) ∧ Rw W wf.heap.size g2 cap2 (rt a l1 (vals pre)) ∧ FieldAt fb W ∧ Bn < W.heap.size) ∧ Below wf.heap.size wf W)
    (fun _ _ _ => False)
    (OwnFrom.and (Own.from (fun q A B row h hg hr => ⟨cell_kept h.1 hg hr, cell_kept h.2.1 hg hr, cell_kept h.2.2.1 hg hr, h.2.2.2.1.grown hg hr, h.2.2.2.2.1.grown hg hr, Nat.lt_of_lt_of_le h.2.2.2.2.2 hg.size⟩) _) (ownFrom_below (by omega) (by omega)))
    (fun c _ _ _ _ h _ _ => h)
    ⟨⟨m0, m1, m2, mr, mf, by omega⟩, mp⟩
    (fun i => { tmps := #[.pointer (some ⟨fb, 0, none⟩), .slice (some ⟨g, 0, none⟩) l.length cap, .int .u8 (a.toNat : Int), .pointer (some ⟨s, 0, none⟩), .pointer (some ⟨s + 1, 0, none⟩), .pointer (some ⟨s + 1 + 1, 0, none⟩), .slice none 0 0, .int .i64 (i.val : Int), .slice (some ⟨g, 0, none⟩) l.length cap, .slice (some ⟨s + 1 + 1 + 1, 0, none⟩) 1 1, .slice (some ⟨g2, 0, none⟩) M cap2, .slice (some ⟨g2, 0, none⟩) M cap2, .int .i64 (M : Int), .func (.func 76) #[] #[.pointer (some ⟨Bn, 0, none⟩)], .int .i64 (i.val : Int), undef, undef, undef, undef, undef, undef, undef, undef, undef, undef, undef, undef, undef, undef, undef, undef, undef, undef, undef, undef, undef, undef, undef, undef, undef, undef, undef], defers := [] }) ?assign ?body ?done ?stop
  case assign =>
    intro L i W K hK
    unfold encB
    gi_wp2
    exact hK
  case body =>
    rintro lo pre ⟨k, hkl⟩ W ⟨⟨q0, q1, q2, qr, qf, qs⟩, qB⟩ _
    have HSN := Lib.hid (show vals (pre ++ [⟨k, hkl⟩]) = vals pre ++ [k] from vals_snoc pre ⟨k, hkl⟩)
    obtain ⟨r, hr⟩ : ∃ r, rt a l1 (vals pre) = r := ⟨_, rfl⟩
    have hrl : r.length = M := by rw [← hr, rt_length]; exact hl1
    rw [hr] at qr
    have HR := Lib.hid hr
    have hbk := qr.blk
    have hkr : k < r.length := by omega
    have y0 := hbk.cell k hkr
    have y0z := hbk.free k hkr
    obtain ⟨y, hy⟩ : ∃ y, cf r k = y := ⟨_, rfl⟩
    obtain ⟨t, ht⟩ : ∃ t, fm a y = t := ⟨_, rfl⟩
    rw [hy] at y0
    have hft : ∀ W' : World, FieldAt fb W' → Calls Try.prog 59 #[.pointer (some ⟨fb, 0, none⟩), .int .u8 (a.toNat : Int), .int .u8 (y.toNat : Int)] W' fun e w' => e = .returned (.int .u8 (t.toNat : Int)) ∧ Eqv W' w' := fun W' h => by rw [← ht]; exact fmul8 fb a y W' h
    have HY := Lib.hid hy
    have HT := Lib.hid ht
    have HFT := Lib.hid hft
    have HQF := Lib.hid qf
    have HQR := Lib.hid qr
    have HQB := Lib.hid qB
    clear hr hy ht hft qf qr qB hbk
    obtain ⟨ad, had⟩ : ∃ ad : Addr, ad = ⟨g2, k, none⟩ := ⟨_, rfl⟩
    have HAD := Lib.hid had
    clear had
    have kI : (k : Int) < (M : Int) := by omega
    gi_wp2
    refine wpIn_draw (by kernel_rfl)
      [.slice (some ⟨g2, 0, none⟩) M cap2, .int .i64 (k : Int), .pointer (some ⟨fb, 0, none⟩), .int .u8 (a.toNat : Int), .slice (some ⟨g2, 0, none⟩) M cap2, .int .i64 (k : Int), .pointer (some ⟨g2, k, none⟩), .int .u8 (y.toNat : Int), .int .u8 (t.toNat : Int), .pointer (some ⟨g2, k, none⟩), undef]
      (Once 10 (Eqv W) (Eqv (W.setCell ad (.int .u8 (t.toNat : Int)))))
      rfl (by kernel_rfl) (fin := ?fin) ?hfin (Once.start (Eqv.drew W)) ?each ?hend
    case hfin => simp [seqA, dstOf, Act.put]; rfl
    case each =>
      refine ⟨?_, ?_, ?_, ?_, ?_, ?_, ?_, ?_, ?_, ?_, ?_, trivial⟩
      all_goals intro L w7 h0 hd hs hw
      all_goals unfold Does
      all_goals try simp only [Nat.zero_add, Nat.reduceAdd] at h0
      · have hc := ((hw.1 (hs.no (by kernel_rfl) h0)).cell _).trans q1
        go_simp; exact fun L' k => hw.same (by decide) k
      · go_simp; exact fun L' k => hw.same (by decide) k
      · have hc := ((hw.1 (hs.no (by kernel_rfl) h0)).cell _).trans q0
        go_simp; exact fun L' k => hw.same (by decide) k
      · have hc := ((hw.1 (hs.no (by kernel_rfl) h0)).cell _).trans q2
        go_simp; exact fun L' k => hw.same (by decide) k
      · have hc := ((hw.1 (hs.no (by kernel_rfl) h0)).cell _).trans q1
        go_simp; exact fun L' k => hw.same (by decide) k
      · go_simp; exact fun L' k => hw.same (by decide) k
      · go_simp; exact fun L' k => hw.same (by decide) k
      · have hc := ((hw.1 (hs.no (by kernel_rfl) h0)).cell _).trans y0
        go_simp; exact fun L' k => hw.same (by decide) k
      · have hA := hw.1 (hs.no (by kernel_rfl) h0)
        go_simp
        refine (HFT.out w7 (HQF.out.only (b := g2) hfg (Only.eqv hA))).mono ?_
        rintro e w6 ⟨rfl, he⟩
        exact ⟨_, rfl, rfl, fun L' k => hw.keep (by decide) k (fun h => h.trans he) (fun h => h.trans he)⟩
      · go_simp; exact fun L' k => hw.same (by decide) k
      · have hA := hw.1 h0
        have hc1 := (hA.cell _).trans y0
        have hc2 := (hA.frozen _).trans y0z
        go_simp
        exact fun L' k => Once.done k (by rw [HAD.out]; exact hA.setCell _ _)
    case hend =>
      intro L w7 hL hw
      have hC := hw.2 (hL 10 (by simp))
      clear hw hL
      have had := HAD.out
      subst had
      have hon : Only g2 W w7 := (Only.setCell W ⟨g2, k, none⟩ _).trans (Only.eqv hC)
      have p0 := (hon.cell (p := ⟨s, 0, none⟩) (by show s < _; omega) (by show s ≠ g2; omega)).trans q0
      have p1 := (hon.cell (p := ⟨s + 1, 0, none⟩) (by show s + 1 < _; omega) (by show s + 1 ≠ g2; omega)).trans q1
      have p2 := (hon.cell (p := ⟨s + 1 + 1, 0, none⟩) (by show s + 1 + 1 < _; omega) (by show s + 1 + 1 ≠ g2; omega)).trans q2
      have HPR := Lib.hid ((HQR.out.set hkr t).eqv hC)
      have HPF := Lib.hid (HQF.out.only hfg hon)
      have HPB := Lib.hid (hon.keeps (w0 := wf) HQB.out hg2b)
      have HPS := Lib.hid (Nat.lt_of_lt_of_le qs hon.size)
      have HKO := Lib.hid (show KeepsOthers W w7 from (KeepsOthers.setCell W ⟨g2, k, none⟩ (.int .u8 (t.toNat : Int))).trans ⟨by rw [hC.heap]; exact Nat.le_refl _, fun k o h _ => by rw [hC.heap]; exact h⟩)
      have HON := Lib.hid hon
      by_cases hk0 : k = 0
      · have hk0' : ¬ ((0 : Int) < (k : Int)) := by omega
        have HK0 := Lib.hid hk0
        clear hk0
        gi_wp2
        refine ⟨HKO.out, HON.out.block Bn qs (by omega), ⟨p0, p1, p2, ?_, HPF.out, HPS.out⟩, HPB.out⟩
        rw [HSN.out, rt_snoc, HR.out, rstep, HY.out, HT.out, if_neg (by have := HK0.out; omega), xor_z]
        exact HPR.out
      · have hk0' : (0 : Int) < (k : Int) := by omega
        have hrl2 : (r.set k t).length = M := by rw [List.length_set]; exact hrl
        have hb7 := HPR.out.blk
        have j0 := hb7.cell k (by omega)
        have j0z := hb7.free k (by omega)
        rw [cf_set _ _ _ hkr, if_pos rfl] at j0
        have j1 := hb7.cell (k - 1) (by omega)
        rw [cf_set _ _ _ hkr, if_neg (by omega)] at j1
        obtain ⟨u, hu⟩ : ∃ u, cf r (k - 1) = u := ⟨_, rfl⟩
        rw [hu] at j1
        obtain ⟨z, hz⟩ : ∃ z, t ^^^ u = z := ⟨_, rfl⟩
        have hat : ∀ (g : Nat) (W' : World), W'.cell? ⟨g, 0, none⟩ = some (.int .u8 (t.toNat : Int)) → W'.cell? ⟨g, 1, none⟩ = some (.int .u8 (u.toNat : Int)) → Calls Try.prog 56 #[.slice (some ⟨g, 0, none⟩) 2 2] W' fun e w' => e = .returned (.int .u8 (z.toNat : Int)) ∧ W' = w' := fun g W' h k => by rw [← hz]; exact add8 g t u W' h k
        have HU := Lib.hid hu
        have HZ := Lib.hid hz
        have HAT := Lib.hid hat
        clear hu hz hat hb7 hon hC y0 y0z q0 q1 q2
        obtain ⟨X, hX⟩ : ∃ X : Obj, X = .cells #[.int .u8 (t.toNat : Int), .int .u8 (u.toNat : Int)] 5 := ⟨_, rfl⟩
        obtain ⟨ae, hae⟩ : ∃ ae : Addr, ae = ⟨g2, k, none⟩ := ⟨_, rfl⟩
        have x0 : (w7.alloc X).cell? ⟨w7.heap.size, 0, none⟩ = some (.int .u8 (t.toNat : Int)) := by subst hX; rw [World.cell?_alloc_new]; rfl
        have x1 : (w7.alloc X).cell? ⟨w7.heap.size, 1, none⟩ = some (.int .u8 (u.toNat : Int)) := by subst hX; rw [World.cell?_alloc_new]; rfl
        have x2 := cell_alloc1 X j0
        have x3 := frozen_alloc1 X j0 j0z
        have x4 := cell_alloc1 X p1
        have HX := Lib.hid hX
        have HAE := Lib.hid hae
        clear hX hae
        have k1I : ((k : Int) - 1).toNat = k - 1 := by omega
        have k1a : (0 : Int) ≤ (k : Int) - 1 := by omega
        have k1b : (k : Int) - 1 < (M : Int) := by omega
        have hwr : IntKind.i64.wrap ((k : Int) - 1) = (k : Int) - 1 := by rw [IntKind.wrap_i64]; omega
        have k1c : (1 : Int) ≤ (k : Int) := by omega
        gi_wp2
        refine wpIn_draw (by kernel_rfl)
          [.slice (some ⟨g2, 0, none⟩) M cap2, .int .i64 (k : Int), .slice (some ⟨g2, 0, none⟩) M cap2, .int .i64 (k : Int), .pointer (some ⟨g2, k, none⟩), .int .u8 (t.toNat : Int), .slice (some ⟨g2, 0, none⟩) M cap2, .int .i64 (k : Int), .int .i64 ((k : Int) - 1), .pointer (some ⟨g2, k - 1, none⟩), .int .u8 (u.toNat : Int), .slice (some ⟨w7.heap.size, 0, none⟩) 2 2, .int .u8 (z.toNat : Int), .pointer (some ⟨g2, k, none⟩), undef]
          (Turn 11 14 (Eqv w7) (Eqv (w7.alloc X)) (Eqv ((w7.alloc X).setCell ae (.int .u8 (z.toNat : Int)))))
          rfl (by kernel_rfl) (fin := ?finb) ?hfinb (Turn.start (Eqv.drew w7)) ?eachb ?hendb
        case hfinb => simp [seqA, dstOf, Act.put]; rfl
        case eachb =>
          refine ⟨?_, ?_, ?_, ?_, ?_, ?_, ?_, ?_, ?_, ?_, ?_, ?_, ?_, ?_, ?_, trivial⟩
          all_goals intro L w8 h0 hd hs hw
          all_goals unfold Does
          all_goals try simp only [Nat.zero_add, Nat.reduceAdd] at h0
          · have h14 := hs.no (j := 14) (by kernel_rfl) h0
            have hc : w8.cell? ⟨s + 1, 0, none⟩ = some (.slice (some ⟨g2, 0, none⟩) M cap2) := by
              cases e : L 11
              · exact ((hw.1 e).cell _).trans p1
              · exact ((hw.2.1 e h14).cell _).trans x4
            go_simp; exact fun L' k => hw.same (by decide) (by decide) k
          · go_simp; exact fun L' k => hw.same (by decide) (by decide) k
          · have h14 := hs.no (j := 14) (by kernel_rfl) h0
            have hc : w8.cell? ⟨s + 1, 0, none⟩ = some (.slice (some ⟨g2, 0, none⟩) M cap2) := by
              cases e : L 11
              · exact ((hw.1 e).cell _).trans p1
              · exact ((hw.2.1 e h14).cell _).trans x4
            go_simp; exact fun L' k => hw.same (by decide) (by decide) k
          · go_simp; exact fun L' k => hw.same (by decide) (by decide) k
          · go_simp; exact fun L' k => hw.same (by decide) (by decide) k
          · have hA := hw.1 (hs.no (by kernel_rfl) h0)
            have hc := (hA.cell _).trans j0
            go_simp; exact fun L' k => hw.same (by decide) (by decide) k
          · have h14 := hs.no (j := 14) (by kernel_rfl) h0
            have hc : w8.cell? ⟨s + 1, 0, none⟩ = some (.slice (some ⟨g2, 0, none⟩) M cap2) := by
              cases e : L 11
              · exact ((hw.1 e).cell _).trans p1
              · exact ((hw.2.1 e h14).cell _).trans x4
            go_simp; exact fun L' k => hw.same (by decide) (by decide) k
          · go_simp; exact fun L' k => hw.same (by decide) (by decide) k
          · go_simp; exact fun L' k => hw.same (by decide) (by decide) k
          · go_simp; exact fun L' k => hw.same (by decide) (by decide) k
          · have hA := hw.1 (hs.no (by kernel_rfl) h0)
            have hc := (hA.cell _).trans j1
            go_simp; exact fun L' k => hw.same (by decide) (by decide) k
          · have hA := hw.1 h0
            have hz := hA.size
            go_simp
            exact fun L' k => Turn.first (hs.no (i := 12) (by kernel_rfl) (hs.no (by kernel_rfl) h0)) (by decide) k (by rw [HX.out]; exact hA.alloc _)
          · have hB := hw.2.1 (hd 11 (by kernel_rfl)) (hs.no (by kernel_rfl) h0)
            have hc1 := (hB.cell _).trans x0
            have hc2 := (hB.cell _).trans x1
            go_simp
            refine (HAT.out _ w8 hc1 hc2).mono ?_
            rintro e w6 ⟨rfl, rfl⟩
            exact ⟨_, rfl, rfl, fun L' k => hw.same (by decide) (by decide) k⟩
          · go_simp; exact fun L' k => hw.same (by decide) (by decide) k
          · have h11 := hs 12 11 (hd 12 (by kernel_rfl)) (by kernel_rfl)
            have hB := hw.2.1 h11 h0
            have hc1 := (hB.cell _).trans x2
            have hc2 := (hB.frozen _).trans x3
            go_simp
            exact fun L' k => Turn.second h11 k (by rw [HAE.out]; exact hB.setCell _ _)
        case hendb =>
          intro L w8 hL hw
          have hC := hw.2.2 (hL 14 (by simp))
          have hae := HAE.out
          subst hae
          have hon2 : Only g2 w7 w8 := (Only.alloc g2 w7 X).trans ((Only.setCell _ ⟨g2, k, none⟩ _).trans (Only.eqv hC))
          have p7 := HPS.out
          have hg7 := HPR.out.blk.old
          have hs7 : s + 1 + 1 < w7.heap.size := by omega
          refine ⟨HKO.out.trans ((KeepsOthers.alloc w7 X).trans ((KeepsOthers.setCell _ ⟨g2, k, none⟩ (.int .u8 (z.toNat : Int))).trans ⟨by rw [hC.heap]; exact Nat.le_refl _, fun k o h _ => by rw [hC.heap]; exact h⟩)),
            (hon2.block Bn p7 (by omega)).trans (HON.out.block Bn qs (by omega)),
            ⟨(hon2.cell (p := ⟨s, 0, none⟩) (by show s < _; omega) (by show s ≠ g2; omega)).trans p0, (hon2.cell (p := ⟨s + 1, 0, none⟩) (by show s + 1 < _; omega) (by show s + 1 ≠ g2; omega)).trans p1, (hon2.cell (p := ⟨s + 1 + 1, 0, none⟩) (by show s + 1 + 1 < _; omega) (by show s + 1 + 1 ≠ g2; omega)).trans p2, ?_, HPF.out.only hfg hon2, Nat.lt_of_lt_of_le p7 hon2.size⟩, hon2.keeps (w0 := wf) HPB.out hg2b⟩
          rw [HSN.out, rt_snoc, HR.out, rstep, HY.out, HT.out, if_pos (by omega), HU.out, HZ.out]
          have h1 : Rw (w7.alloc X) wf.heap.size g2 cap2 (r.set k t) := HPR.out.block (Below.heap_alloc w7 X g2 hg7)
          have h2 := (h1.set (i := k) (by omega) z).eqv hC
          rw [List.set_set] at h2
          exact h2
  case done =>
    rintro D ys W hD hys ⟨⟨q0, q1, q2, qr, qf, qs⟩, qB⟩ hK
    rw [hys] at qr
    have HQR := Lib.hid qr
    clear qr
    gi_wp2
    go_wp2
    refine ⟨by simp, .inl ⟨_, _, rfl, run_takeDeferred hK, ?_⟩⟩
    have hgr := grownBy_putObj' W D (.deferred none)
    have hr2 := HQR.out.grown hgr (fun r e => by cases e; exact ⟨_, hK, rfl⟩)
    refine ⟨.slice (some ⟨g2, 0, none⟩) M cap2, ?_, .slice (some ⟨g2, 0, none⟩) M cap2, rfl, ?_, ?_⟩
    · simp [results, Try.f40, go_sem]
    · have ho := hr2.own
      rw [rt_length, hl1] at ho
      rw [hL1, hl1]; exact ho
    · exact Below.trans qB (belowK_b (w := w5) (by omega) W D _ _ hD hK rfl rfl)
  case stop => rintro D c pre W hD hpre h hK; exact h.elim
theorem addRoot_any (wf : World) (fb : Nat) (v : Value) (l : List UInt8) (a : UInt8) (w : World) (hf : FieldAt fb wf) (hk : Keeps wf w) (hown : Own w wf.heap.size v l) (ht : trim l = l) (hl : l ≠ []) (hll : l.length ≤ 900000) :
    Calls Try.prog 40 #[.pointer (some ⟨fb, 0, none⟩), v, .int .u8 (a.toNat : Int)] w fun e W' => ∃ v', e = .returned v' ∧ Own W' wf.heap.size v' (pmul l [a, 1]) ∧ Keeps wf W' := by
  have h := callsIn_wide.1 (addRoot_in wf fb v l a w hf hk hown hl hll)
  rw [rt_full ht hl] at h; exact h
def roRel (w1 : World) (l : List UInt8) (v i : Value) (wr : World) : Prop := ∃ k : Nat, k ≤ l.length ∧ i = .int .i64 (k : Int) ∧ Own wr w1.heap.size v (proots (l.take k)) ∧ Keeps w1 wr
set_option maxRecDepth 100000 in
set_option maxHeartbeats 1600000 in
theorem proots_big (w0 : World) (l : ByteArray) (w : World) (hl : l.size ≤ 100000) (hk : Keeps w0 w) :
    Calls Try.prog 26 #[.string l] w fun e w' => e = .returned (.string (st (proots (ls l)))) ∧ Keeps w0 w' := by
  have HK := Lib.hid hk
  clear hk
  go_enter Try.func26, Try.ntmps26
  go_wp2_with fail
  refine (new_any w).mono ?_
  rintro e w1 ⟨rfl, hf, hbel⟩
  have HF := Lib.hid hf
  have HK1 := Lib.hid (HK.out.trans hbel)
  have HO := Lib.hid (show Own (w1.alloc (.cells #[.int .u8 1] 5)) w1.heap.size (.slice (some ⟨w1.heap.size, 0, none⟩) 1 1) [1] from World.ownsRow_lit w1 _ 1 (Nat.le_refl _) (by unfold maxLen; omega) rfl)
  clear hf hbel
  obtain ⟨fb, hfb⟩ : ∃ fb, w.heap.size = fb := ⟨_, rfl⟩
  rw [hfb] at HF
  rw [hfb]
  go_wp2
  go_loopw [4, 10] (fun v i wr => roRel w1 (ls l) v i wr) (fun _ i _ => l.size - (intOf i).toNat)
  case atStart => exact ⟨0, by omega, rfl, HO.out, (Keeps.refl w1).alloc _⟩
  case round =>
    obtain ⟨k, hk, rfl, hown, hkp⟩ := hrel
    rw [← ls_size] at hk
    by_cases hlt : k < l.size
    · have hgt := ls_get l k hlt
      have HN := Lib.hid (proots_next (l := ls l) (k := k) (by rw [← ls_size]; exact hlt))
      have hpl := proots_length ((ls l).take k)
      have hpt := proots_trim ((ls l).take k)
      have htk : ((ls l).take k).length ≤ 100000 := by rw [List.length_take, ← ls_size]; omega
      have hcall := fun a => addRoot_any w1 fb _ (proots ((ls l).take k)) a wr HF.out hkp hown hpt (by intro e; rw [e] at hpl; simp at hpl) (by omega)
      have HC := Lib.hid hcall
      clear hcall hown
      go_wp2_with fail
      refine (HC.out _).mono ?_
      rintro e w2 ⟨v2, rfl, own2, kp2⟩
      rw [← HN.out] at own2
      go_wp2
      go_roundw
      case rel => exact ⟨k + 1, by rw [← ls_size]; omega, by go_num, own2, kp2⟩
      case measure => simp [intOf]; omega
    · have HE := Lib.hid (show (ls l).take k = ls l from List.take_of_length_le (by rw [← ls_size]; omega))
      have hcv := hown.text
      rw [HE.out] at hcv
      have hjl : (l.size : Int) ≤ (k : Int) := by omega
      go_wp2
      go_ret
      exact ⟨rfl, HK1.out.over hkp⟩
end Go.Proofs.Ytdlcloenihkkgaa
