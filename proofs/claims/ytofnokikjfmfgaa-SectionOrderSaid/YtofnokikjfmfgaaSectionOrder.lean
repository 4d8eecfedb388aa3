/-
  For any string and any two numbers SectionOrder returns true: sections of a text that are not in order, or of which one is missing, or is another one's, are no text; nothing that was there is changed. No condition.
-/
import Derived.Test.YtofnokikjfmfgaaRows
import Derived.Test.YtofnokikjfmfgaaScArgs
import Derived.Test.YtofnokikjfmfgaaScO
namespace Go.Proofs.Ytofnokikjfmfgaa.sectionOrder
open Go.ChangeShapes Go.WideShapes Go.ChangeAt Go.RowKit Gf Sct
set_option maxRecDepth 100000
open Go.ChangeMaps (open_string shut_string)
set_option linter.unusedVariables false
theorem chk9 {l : List UInt8} (h : l.length ≤ 9000) : chk (base 9 8 7 l) = 0 := by
  have hl : lastN l ≤ 2 := by unfold lastN; omega
  exact chk_ok ⟨by show (0 : Int) ≤ 9; decide, by show (9 : Int) ≤ 255; decide, by show (0 : Int) ≤ 8; decide, by show (8 : Int) ≤ 65535; decide, by show (0 : Int) ≤ 7; decide, by show (7 : Int) ≤ 31; decide, by show (0 : Int) ≤ (lastN l : Int); omega, by show (lastN l : Int) ≤ 255; omega, by show (0 : Int) ≤ 0; decide, by show (0 : Int) ≤ (lastN l : Int); omega⟩ (by show ¬ 4084 < (⟨#[]⟩ : ByteArray).size; decide)
set_option maxHeartbeats 3200000 in
theorem off (t : ByteArray) (p q : Int) (w : World) (h : t.size ≤ 4084 ∨ (¬ t.size ≤ 4084 ∧ ¬ t.size ≤ 9000)) :
    Calls Try.prog 3 #[.string t, .agg #[.int .i64 p, .int .i64 q]] w fun e w' => e = .returned (.bool true) ∧ Below w.heap.size w w' := by
  have HKX := Lib.hid ((Keeps.refl w).alloc (.cells #[.int .i64 p, .int .i64 q] 22))
  rcases h with h | ⟨h, h9⟩
  all_goals
    go_enter Try.func3, Try.ntmps3
    go_wp2_with (go_at_call 11; refine (awake8_any w _ HKX.out).mono ?_; rintro _ w5 ⟨rfl, k5⟩)
    go_ret
    exact ⟨rfl, k5⟩
theorem eqv_setCells {g : Nat} : ∀ (vs : List Value) (o : Nat) {w w' : World}, Eqv w w' → Eqv (w.setCells g o vs) (w'.setCells g o vs)
  | [], _, _, _, h => h
  | v :: r, o, _, _, h => eqv_setCells r (o + 1) (h.setCell _ _)
theorem cells_ext {SL : List Sec} {i : Nat} (hi : i < SL.length) {x : Sec} (hx : SL.getD i zs = x) : secT.cells (SL.set i { x with ex := 9 }) = (secT.cells SL).take (i * 8 + 2) ++ [.int .i64 9] ++ (secT.cells SL).drop (i * 8 + 2 + 1) := by
  have hA : (secT.cells (SL.take i)).length = i * 8 := by rw [RowT.cells_length, List.length_take, Nat.min_eq_left (by omega)]; rfl
  have e0 : SL = SL.take i ++ x :: SL.drop (i + 1) := by
    rw [← hx, List.getD_eq_getElem?_getD, List.getElem?_eq_getElem hi]
    show SL = SL.take i ++ SL[i] :: SL.drop (i + 1)
    rw [List.getElem_cons_drop, List.take_append_drop]
  have e1 : secT.cells SL = secT.cells (SL.take i) ++ (secC x ++ secT.cells (SL.drop (i + 1))) := by
    conv => lhs; rw [e0]
    rw [RowT.cells_append]; rfl
  have e2 : secT.cells (SL.set i { x with ex := 9 }) = secT.cells (SL.take i) ++ (secC { x with ex := 9 } ++ secT.cells (SL.drop (i + 1))) := by
    rw [List.set_eq_take_append_cons_drop, if_pos hi, RowT.cells_append]; rfl
  rw [e2, e1, ← hA, List.take_length_add_append, Nat.add_assoc, List.drop_length_add_append, List.append_assoc, List.append_assoc]
  rfl
theorem rem_of (p : Int) {N : Nat} (hN : 0 < N) : ∃ (r : Int) (i : Nat), p.tmod (N : Int) = r ∧ -(N : Int) < r ∧ r < (N : Int) ∧ (r + (N : Int)) % (N : Int) = (i : Int) ∧ (r + (N : Int)).tmod (N : Int) = (i : Int) ∧ i < N := by
  have h1 : p.tmod (N : Int) < (N : Int) := Int.tmod_lt_of_pos p (by omega)
  have h2 : -(N : Int) < p.tmod (N : Int) := by
    have := Int.lt_tmod_of_pos p (show (0 : Int) < N by omega)
    omega
  have h3 : 0 ≤ (p.tmod (N : Int) + (N : Int)) % (N : Int) := Int.emod_nonneg _ (by omega)
  have h4 : (p.tmod (N : Int) + (N : Int)) % (N : Int) < (N : Int) := Int.emod_lt_of_pos _ (by omega)
  exact ⟨_, ((p.tmod (N : Int) + (N : Int)) % (N : Int)).toNat, rfl, h2, h1, by omega, by rw [Int.tmod_eq_emod_of_nonneg (by omega)]; omega, by omega⟩
set_option maxHeartbeats 12800000 in
theorem core (t : ByteArray) (p q : Int) (w : World) (h4 : ¬ t.size ≤ 4084) (h9 : t.size ≤ 9000) :
    Calls Try.prog 3 #[.string t, .agg #[.int .i64 p, .int .i64 q]] w fun e w' => e = .returned (.bool true) ∧ Below w.heap.size w w' := by
  have hkX := (Keeps.refl w).alloc (.cells #[.int .i64 p, .int .i64 q] 22)
  obtain ⟨wX, hX⟩ : ∃ wX, w.alloc (.cells #[.int .i64 p, .int .i64 q] 22) = wX := ⟨_, rfl⟩
  have b0 : wX.cell? ⟨w.heap.size, 0, none⟩ = some (.int .i64 p) := by rw [← hX, World.cell?_alloc_new]; rfl
  have b1 : wX.cell? ⟨w.heap.size, 1, none⟩ = some (.int .i64 q) := by rw [← hX, World.cell?_alloc_new]; rfl
  have hbX : w.heap.size < wX.heap.size := by rw [← hX]; simp
  rw [hX] at hkX
  have HKX := Lib.hid hkX
  have hc9 := chk9 (l := ls t) (by rw [← ls_size]; exact h9)
  have hla : lastN (ls t) = (t.size - 1) / 4084 := by unfold lastN; rw [← ls_size]
  have HS := Lib.hid (fun W => scsplit_any W 9 8 7 t W (by omega) (Keeps.refl W))
  unfold SplPost at HS
  simp only [spl_ok (tb := 9) (ex := 8) (ver := 7) (l := ls t) (by omega) hc9] at HS
  obtain ⟨N, hN⟩ : ∃ N, (secs 9 8 7 (ls t)).length = N := ⟨_, rfl⟩
  have hNl : N = lastN (ls t) + 1 := by rw [← hN, secs_length]
  have hN2 : 2 ≤ N := by omega
  have hN3 : N ≤ 3 := by omega
  obtain ⟨r1, i, e1, e2, e3, e4, e5, hi⟩ := rem_of p (show 0 < N by omega)
  obtain ⟨r2, k, f1, f2, f3, f4, f5, hk⟩ := rem_of q (show 0 < N by omega)
  have HSW := Lib.hid (swp_jn (l := ls t) hc9 (i := i) (k := k) (by omega) (by omega))
  have HLS := Lib.hid (less_jn (l := ls t) hc9 (by omega) (i := i) (by omega))
  have HOT := Lib.hid (other_jn (l := ls t) hc9 (by omega) (i := i) (by omega))
  have HGI := Lib.hid (secs_get 9 8 7 (ls t) (n := i) (by omega))
  obtain ⟨SL, hSL⟩ : ∃ SL, secs 9 8 7 (ls t) = SL := ⟨_, rfl⟩
  rw [hSL] at HS hN HSW HLS HOT HGI
  have hne : SL ≠ [] := by intro e; rw [e] at hN; simp at hN; omega
  have HN := Lib.hid hN
  have HNE := Lib.hid hne
  have HNN := Lib.hid hN2
  have hNI : ¬ ((N : Int) < 2) := by omega
  have hN0 : ¬ ((N : Int) = 0) := by omega
  clear hkX hc9 hla hN hSL hNl hne
  go_enter Try.func3, Try.ntmps3
  go_wp2_with (first | (go_at_call 12; refine (HS.out _).mono ?_; rintro _ w1 ⟨v1, rfl, own1, k1⟩; obtain ⟨g1, c1, rfl, _, _, hc1, _⟩ := own1.blk HNE.out; rw [HN.out] at own1 hc1 ⊢; have HO1 := Lib.hid own1; have HK1 := Lib.hid k1; have HI1 := Lib.hid (show IsE secT w1 (some ⟨g1, 0, none⟩) N SL by obtain ⟨a', c', he, hi', _⟩ := own1.is; cases he; rwa [HN.out] at hi'); have b0 := (Below.cell k1 (p := ⟨w.heap.size, 0, none⟩) hbX).trans b0; have b1 := (Below.cell k1 (p := ⟨w.heap.size, 1, none⟩) hbX).trans b1; clear own1 k1) | (at_builtin; refine wp_catS rfl _ _ rfl (base := w1.heap.size) (OwnE.nil _ _) rfl rfl HI1.out (by rw [HN.out]; simp; omega) (Nat.le_refl _) ?_; intro v2 w2 own2 grow2; rw [List.nil_append] at own2; obtain ⟨g2, c2, rfl, hbk2, hm2, hc2, hg2⟩ := own2.blk HNE.out; rw [HN.out] at own2 hc2 ⊢; have HO2 := Lib.hid own2; have HK2 := Lib.hid (Keeps.grown (Keeps.refl w1) grow2 (fun k e => by cases e)); clear own2 grow2; refine RowKit.Hid.out ?_))
  refine Lib.hid ?_
  go_wp2
  obtain ⟨xi, hxi⟩ : ∃ x, SL.getD i zs = x := ⟨_, rfl⟩
  obtain ⟨xk, hxk⟩ : ∃ x, SL.getD k zs = x := ⟨_, rfl⟩
  have hrw := HO2.out.secs (by have := HNN.out; omega) HN.out.symm
  have hri := hrw.row i hi
  have hrk := hrw.row k hk
  rw [hxi, Nat.zero_add] at hri
  rw [hxk, Nat.zero_add] at hrk
  have hob := hrw.old
  have hiI : (i : Int) < (N : Int) := by omega
  have hkI : (k : Int) < (N : Int) := by omega
  have HT1 := Lib.hid (HO2.out.there (i := i) (by rw [HN.out]; exact hi))
  have HP1 := HO2.out.put (i := i) (by rw [HN.out]; exact hi) xk
  have HT2 := Lib.hid (HP1.there (i := k) (by rw [List.length_set, HN.out]; exact hk))
  have HP2 := Lib.hid (HP1.put (i := k) (by rw [List.length_set, HN.out]; exact hk) xi)
  have hkt := ((only_setCells g2 (secC xk) (i * 8) w2).trans (only_setCells g2 (secC xi) (k * 8) _)).keeps HK2.out hm2
  have HKT := Lib.hid hkt
  clear HP1 hrw hkt
  refine wp_draw (by kernel_rfl)
    [.slice (some ⟨g2, 0, none⟩) N c2, .int .i64 (i : Int), .slice (some ⟨g2, 0, none⟩) N c2, .int .i64 (k : Int), .slice (some ⟨g2, 0, none⟩) N c2, .int .i64 (k : Int), .pointer (some ⟨g2, k * 8, none⟩), secV xk, .slice (some ⟨g2, 0, none⟩) N c2, .int .i64 (i : Int), .pointer (some ⟨g2, i * 8, none⟩), secV xi, .pointer (some ⟨g2, i * 8, none⟩), undef, .pointer (some ⟨g2, k * 8, none⟩), undef]
    (Turn 13 15 (Eqv w2) (Eqv (w2.setCells g2 (i * 8) (secC xk))) (Eqv ((w2.setCells g2 (i * 8) (secC xk)).setCells g2 (k * 8) (secC xi))))
    rfl (by kernel_rfl) (fin := ?fin) ?hfin (Turn.start (Eqv.drew w2)) ?each ?hend
  case hfin => simp [seqA, dstOf, Act.put]; rfl
  case each =>
    refine ⟨?_, ?_, ?_, ?_, ?_, ?_, ?_, ?_, ?_, ?_, ?_, ?_, ?_, ?_, ?_, ?_, trivial⟩
    all_goals intro X w5 h0 hd hsh hw
    all_goals try simp only [Nat.zero_add, Nat.reduceAdd] at h0
    rotate_left 13
    · have hA := hw.1 h0
      exact does_stS xk (b := g2) (off := i * 8) (fun j hj => by rw [hA.cell, hA.frozen]; exact HT1.out j hj) rfl rfl rfl ⟨fun h => absurd rfl h, fun L' k => Turn.first (hsh.no (by kernel_rfl) h0) (by decide) k (eqv_setCells _ _ hA)⟩
    · unfold Does; go_simp; exact fun L' k => hw.same (by decide) (by decide) k
    · have h6 := hd 13 (by kernel_rfl)
      have hB := hw.2.1 h6 h0
      exact does_stS xi (b := g2) (off := k * 8) (fun j hj => by rw [hB.cell, hB.frozen]; exact HT2.out j hj) rfl rfl rfl ⟨fun h => absurd rfl h, fun L' k => Turn.second h6 k (eqv_setCells _ _ hB)⟩
    rotate_left 7
    · have hA := hw.1 (hsh.no (by kernel_rfl) h0)
      obtain ⟨q0, q1, q2, q3, q4, q5, q6, q7⟩ := range_cells (fun j v hv => (hA.cell _).trans (hrk j v hv) : w5.rangeAt g2 (k * 8) (secC xk))
      unfold Does; go_simp; exact fun L' k => hw.same (by decide) (by decide) k
    rotate_left 3
    · have hA := hw.1 (hsh.no (by kernel_rfl) h0)
      obtain ⟨q0, q1, q2, q3, q4, q5, q6, q7⟩ := range_cells (fun j v hv => (hA.cell _).trans (hri j v hv) : w5.rangeAt g2 (i * 8) (secC xi))
      unfold Does; go_simp; exact fun L' k => hw.same (by decide) (by decide) k
    all_goals (unfold Does; go_simp; exact fun L' k => hw.same (by decide) (by decide) k)
  case hend =>
  intro X w5 hL hw
  have hC := hw.2.2 (hL 15 (by simp))
  have HO5 := Lib.hid (show OwnE secT w5 w1.heap.size (.slice (some ⟨g2, 0, none⟩) N c2) (swp SL i k) by have := HP2.out.eqv hC; rw [← hxi, ← hxk] at this; exact this)
  have HK5 := Lib.hid (HKT.out.eqv hC)
  clear hw hL hC hri hrk hob HT1 HT2 HP2 HKT hxi hxk
  have HI5 := Lib.hid (show IsE secT w5 (some ⟨g2, 0, none⟩) N (swp SL i k) by
    obtain ⟨a', c', he, hi', _⟩ := HO5.out.is
    simp only [Value.slice.injEq] at he
    obtain ⟨rfl, e2, rfl⟩ := he
    rw [← e2] at hi'; exact hi')
  have HJA := Lib.hid (fun W a cap (h : IsE secT W a N (swp SL i k)) => scjoin_any W a N cap (swp SL i k) W h (by omega) (Keeps.refl W))
  have HJB := Lib.hid (fun W a n cap (hn : n ≤ 1000000) (h : IsE secT W a n (SL.take i ++ SL.drop (i + 1))) => scjoin_any W a n cap _ W h hn (Keeps.refl W))
  have HJC := Lib.hid (fun W a n cap (hn : n ≤ 1000000) (h : IsE secT W a n (SL.set i { mk 9 8 7 (ls t) i with ex := 9 })) => scjoin_any W a n cap _ W h hn (Keeps.refl W))
  unfold JnPost at HJA HJB HJC
  simp only [HSW.out] at HJA
  simp only [HLS.out] at HJB
  simp only [HOT.out] at HJC
  have hst0 : st [] = (⟨#[]⟩ : ByteArray) := by rfl
  by_cases hik : i = k
  · subst hik
    simp only [if_pos, st_ls, hst0] at HJA HJB HJC
    go_wp2_with (first | (go_at_call 13; refine (HJA.out _ _ _ HI5.out).mono ?_; rintro _ w6 ⟨rfl, k6⟩; have HK6 := Lib.hid (Keeps.trans HK5.out k6); have HI6 := Lib.hid (HI1.out.keeps HK6.out); clear k6) | (at_builtin; refine wp_catS rfl _ _ rfl (base := w6.heap.size) (OwnE.nil _ _) rfl rfl (HI6.out.take (i := i) (by rw [HN.out]; omega)) (by rw [List.length_take, HN.out]; simp; omega) (Nat.le_refl _) ?_; intro v7 w7 own7 grow7; rw [List.nil_append] at own7; have HO7 := Lib.hid own7; have HK7 := Lib.hid (Keeps.grown (Keeps.refl w6) grow7 (fun k e => by cases e)); clear own7 grow7; refine RowKit.Hid.out ?_))
    refine Lib.hid ?_
    have hi1 : (i : Int) + 1 ≤ (N : Int) := by omega
    have HI7 := Lib.hid (HI6.out.keeps HK7.out)
    go_wp2_with (at_builtin; refine RowKit.Hid.out ?_)
    · refine Lib.hid ?_
      refine wp_catS rfl _ _ rfl (base := w6.heap.size) (L := SL.drop (i + 1)) HO7.out rfl rfl ?hIpa ?hlpa ?hbpa ?hhpa
      case hIpa =>
        have e : SL.drop (i + 1) = [] := List.drop_eq_nil_of_le (by rw [HN.out]; omega)
        rw [e]
        exact ⟨show N - (i + 1) = 0 by omega, fun h => by simp at h⟩
      case hlpa => rw [List.length_take, List.length_drop, HN.out]; omega
      case hbpa => exact Below.size HK7.out
      intro v8 w8 own8 grow8
      obtain ⟨a8, c8, rfl, is8, _⟩ := own8.is
      obtain ⟨M, hM⟩ : ∃ M, (SL.take i ++ SL.drop (i + 1)).length = M := ⟨_, rfl⟩
      rw [hM] at is8 ⊢
      have HI8 := Lib.hid is8
      have HM := Lib.hid (show M ≤ 1000000 by rw [← hM, List.length_append, List.length_take, List.length_drop, HN.out]; omega)
      clear hM
      have HK8 := Lib.hid (Keeps.grown HK7.out grow8 HO7.out.block)
      clear own8 is8 grow8
      go_wp2_with (first | (go_at_call 13; refine (HJB.out _ a8 M c8 HM.out HI8.out).mono ?_; rintro _ w9 ⟨rfl, k9⟩; have HK9 := Lib.hid (Keeps.trans HK6.out (Keeps.trans HK8.out k9)); have HI9 := Lib.hid (HI1.out.keeps HK9.out); clear k9) | (at_builtin; refine wp_catS rfl _ _ rfl (base := w9.heap.size) (OwnE.nil _ _) rfl rfl HI9.out (by rw [HN.out]; simp; omega) (Nat.le_refl _) ?_; intro v10 w10 own10 grow10; rw [List.nil_append] at own10; obtain ⟨g3, c3, rfl, hbk3, hm3, hc3, hg3⟩ := own10.blk HNE.out; rw [HN.out] at own10 hc3 ⊢; have HO10 := Lib.hid own10; have HK10 := Lib.hid (Keeps.grown (Keeps.refl w9) grow10 (fun k e => by cases e)); clear own10 grow10; refine RowKit.Hid.out ?_))
      have hr10 := (HO10.out.secs (by have := HNN.out; omega) HN.out.symm).row i hi
      rw [HGI.out, Nat.zero_add] at hr10
      have q2 : w10.cell? ⟨g3, i * 8 + 2, none⟩ = some (.int .i64 (mk 9 8 7 (ls t) i).ex) := hr10 2 _ rfl
      have fz2 : w10.frozen? ⟨g3, i * 8 + 2, none⟩ = false := (HO10.out.there (i := i) (by rw [HN.out]; exact hi) 2 (by decide)).2
      have hcx := cells_ext (SL := SL) (i := i) (by rw [HN.out]; exact hi) HGI.out
      have ho11 := HO10.out.write (l' := SL.set i { mk 9 8 7 (ls t) i with ex := 9 }) (o := i * 8 + 2) [.int .i64 9] (by show i * 8 + 2 + 1 ≤ SL.length * 8; rw [HN.out]; omega) (List.length_set ..) hcx
      obtain ⟨a11, c11, he11, hi11, _⟩ := ho11.is
      rw [List.length_set, HN.out] at he11 hi11
      simp only [Value.slice.injEq] at he11
      obtain ⟨rfl, _, rfl⟩ := he11
      have HI11 := Lib.hid hi11
      have HK11 := Lib.hid ((only_setCells g3 [.int .i64 9] (i * 8 + 2) w10).keeps HK10.out hm3)
      have HN6 := Lib.hid (show N ≤ 1000000 by omega)
      clear hr10 hcx ho11 hi11
      refine Lib.hid ?_
      go_wp2_with (first | (go_at_call 13; refine (HJC.out _ (some ⟨g3, 0, none⟩) N c3 HN6.out HI11.out).mono ?_; rintro _ w12 ⟨rfl, k12⟩; have HK12 := Lib.hid (Keeps.trans HK11.out k12); clear k12) | (go_at_call 11; refine (awake8_any w _ (HKX.out.trans (HK1.out.trans (HK9.out.trans HK12.out)))).mono ?_; rintro _ w13 ⟨rfl, k13⟩))
      go_ret
      exact ⟨rfl, k13⟩
    · refine Lib.hid ?_
      refine wp_catS rfl _ _ rfl (base := w6.heap.size) (L := SL.drop (i + 1)) HO7.out rfl rfl ?hIpb ?hlpb ?hbpb ?hhpb
      case hIpb => exact (show IsE secT w7 (some ⟨g1, (i + 1) * 8, none⟩) (N - (i + 1)) (SL.drop (i + 1)) by have e := HI7.out.drop (i := i + 1) (by rw [HN.out]; omega); rw [Nat.zero_add] at e; exact e)
      case hlpb => rw [List.length_take, List.length_drop, HN.out]; omega
      case hbpb => exact Below.size HK7.out
      intro v8 w8 own8 grow8
      obtain ⟨a8, c8, rfl, is8, _⟩ := own8.is
      obtain ⟨M, hM⟩ : ∃ M, (SL.take i ++ SL.drop (i + 1)).length = M := ⟨_, rfl⟩
      rw [hM] at is8 ⊢
      have HI8 := Lib.hid is8
      have HM := Lib.hid (show M ≤ 1000000 by rw [← hM, List.length_append, List.length_take, List.length_drop, HN.out]; omega)
      clear hM
      have HK8 := Lib.hid (Keeps.grown HK7.out grow8 HO7.out.block)
      clear own8 is8 grow8
      go_wp2_with (first | (go_at_call 13; refine (HJB.out _ a8 M c8 HM.out HI8.out).mono ?_; rintro _ w9 ⟨rfl, k9⟩; have HK9 := Lib.hid (Keeps.trans HK6.out (Keeps.trans HK8.out k9)); have HI9 := Lib.hid (HI1.out.keeps HK9.out); clear k9) | (at_builtin; refine wp_catS rfl _ _ rfl (base := w9.heap.size) (OwnE.nil _ _) rfl rfl HI9.out (by rw [HN.out]; simp; omega) (Nat.le_refl _) ?_; intro v10 w10 own10 grow10; rw [List.nil_append] at own10; obtain ⟨g3, c3, rfl, hbk3, hm3, hc3, hg3⟩ := own10.blk HNE.out; rw [HN.out] at own10 hc3 ⊢; have HO10 := Lib.hid own10; have HK10 := Lib.hid (Keeps.grown (Keeps.refl w9) grow10 (fun k e => by cases e)); clear own10 grow10; refine RowKit.Hid.out ?_))
      have hr10 := (HO10.out.secs (by have := HNN.out; omega) HN.out.symm).row i hi
      rw [HGI.out, Nat.zero_add] at hr10
      have q2 : w10.cell? ⟨g3, i * 8 + 2, none⟩ = some (.int .i64 (mk 9 8 7 (ls t) i).ex) := hr10 2 _ rfl
      have fz2 : w10.frozen? ⟨g3, i * 8 + 2, none⟩ = false := (HO10.out.there (i := i) (by rw [HN.out]; exact hi) 2 (by decide)).2
      have hcx := cells_ext (SL := SL) (i := i) (by rw [HN.out]; exact hi) HGI.out
      have ho11 := HO10.out.write (l' := SL.set i { mk 9 8 7 (ls t) i with ex := 9 }) (o := i * 8 + 2) [.int .i64 9] (by show i * 8 + 2 + 1 ≤ SL.length * 8; rw [HN.out]; omega) (List.length_set ..) hcx
      obtain ⟨a11, c11, he11, hi11, _⟩ := ho11.is
      rw [List.length_set, HN.out] at he11 hi11
      simp only [Value.slice.injEq] at he11
      obtain ⟨rfl, _, rfl⟩ := he11
      have HI11 := Lib.hid hi11
      have HK11 := Lib.hid ((only_setCells g3 [.int .i64 9] (i * 8 + 2) w10).keeps HK10.out hm3)
      have HN6 := Lib.hid (show N ≤ 1000000 by omega)
      clear hr10 hcx ho11 hi11
      refine Lib.hid ?_
      go_wp2_with (first | (go_at_call 13; refine (HJC.out _ (some ⟨g3, 0, none⟩) N c3 HN6.out HI11.out).mono ?_; rintro _ w12 ⟨rfl, k12⟩; have HK12 := Lib.hid (Keeps.trans HK11.out k12); clear k12) | (go_at_call 11; refine (awake8_any w _ (HKX.out.trans (HK1.out.trans (HK9.out.trans HK12.out)))).mono ?_; rintro _ w13 ⟨rfl, k13⟩))
      go_ret
      exact ⟨rfl, k13⟩
  · have hikI : ¬ ((i : Int) = (k : Int)) := by omega
    simp only [if_neg hik, hst0] at HJA HJB HJC
    go_wp2_with (first | (go_at_call 13; refine (HJA.out _ _ _ HI5.out).mono ?_; rintro _ w6 ⟨rfl, k6⟩; have HK6 := Lib.hid (Keeps.trans HK5.out k6); have HI6 := Lib.hid (HI1.out.keeps HK6.out); clear k6) | (at_builtin; refine wp_catS rfl _ _ rfl (base := w6.heap.size) (OwnE.nil _ _) rfl rfl (HI6.out.take (i := i) (by rw [HN.out]; omega)) (by rw [List.length_take, HN.out]; simp; omega) (Nat.le_refl _) ?_; intro v7 w7 own7 grow7; rw [List.nil_append] at own7; have HO7 := Lib.hid own7; have HK7 := Lib.hid (Keeps.grown (Keeps.refl w6) grow7 (fun k e => by cases e)); clear own7 grow7; refine RowKit.Hid.out ?_))
    refine Lib.hid ?_
    have hi1 : (i : Int) + 1 ≤ (N : Int) := by omega
    have HI7 := Lib.hid (HI6.out.keeps HK7.out)
    go_wp2_with (at_builtin; refine RowKit.Hid.out ?_)
    · refine Lib.hid ?_
      refine wp_catS rfl _ _ rfl (base := w6.heap.size) (L := SL.drop (i + 1)) HO7.out rfl rfl ?hIqa ?hlqa ?hbqa ?hhqa
      case hIqa =>
        have e : SL.drop (i + 1) = [] := List.drop_eq_nil_of_le (by rw [HN.out]; omega)
        rw [e]
        exact ⟨show N - (i + 1) = 0 by omega, fun h => by simp at h⟩
      case hlqa => rw [List.length_take, List.length_drop, HN.out]; omega
      case hbqa => exact Below.size HK7.out
      intro v8 w8 own8 grow8
      obtain ⟨a8, c8, rfl, is8, _⟩ := own8.is
      obtain ⟨M, hM⟩ : ∃ M, (SL.take i ++ SL.drop (i + 1)).length = M := ⟨_, rfl⟩
      rw [hM] at is8 ⊢
      have HI8 := Lib.hid is8
      have HM := Lib.hid (show M ≤ 1000000 by rw [← hM, List.length_append, List.length_take, List.length_drop, HN.out]; omega)
      clear hM
      have HK8 := Lib.hid (Keeps.grown HK7.out grow8 HO7.out.block)
      clear own8 is8 grow8
      go_wp2_with (first | (go_at_call 13; refine (HJB.out _ a8 M c8 HM.out HI8.out).mono ?_; rintro _ w9 ⟨rfl, k9⟩; have HK9 := Lib.hid (Keeps.trans HK6.out (Keeps.trans HK8.out k9)); have HI9 := Lib.hid (HI1.out.keeps HK9.out); clear k9) | (at_builtin; refine wp_catS rfl _ _ rfl (base := w9.heap.size) (OwnE.nil _ _) rfl rfl HI9.out (by rw [HN.out]; simp; omega) (Nat.le_refl _) ?_; intro v10 w10 own10 grow10; rw [List.nil_append] at own10; obtain ⟨g3, c3, rfl, hbk3, hm3, hc3, hg3⟩ := own10.blk HNE.out; rw [HN.out] at own10 hc3 ⊢; have HO10 := Lib.hid own10; have HK10 := Lib.hid (Keeps.grown (Keeps.refl w9) grow10 (fun k e => by cases e)); clear own10 grow10; refine RowKit.Hid.out ?_))
      have hr10 := (HO10.out.secs (by have := HNN.out; omega) HN.out.symm).row i hi
      rw [HGI.out, Nat.zero_add] at hr10
      have q2 : w10.cell? ⟨g3, i * 8 + 2, none⟩ = some (.int .i64 (mk 9 8 7 (ls t) i).ex) := hr10 2 _ rfl
      have fz2 : w10.frozen? ⟨g3, i * 8 + 2, none⟩ = false := (HO10.out.there (i := i) (by rw [HN.out]; exact hi) 2 (by decide)).2
      have hcx := cells_ext (SL := SL) (i := i) (by rw [HN.out]; exact hi) HGI.out
      have ho11 := HO10.out.write (l' := SL.set i { mk 9 8 7 (ls t) i with ex := 9 }) (o := i * 8 + 2) [.int .i64 9] (by show i * 8 + 2 + 1 ≤ SL.length * 8; rw [HN.out]; omega) (List.length_set ..) hcx
      obtain ⟨a11, c11, he11, hi11, _⟩ := ho11.is
      rw [List.length_set, HN.out] at he11 hi11
      simp only [Value.slice.injEq] at he11
      obtain ⟨rfl, _, rfl⟩ := he11
      have HI11 := Lib.hid hi11
      have HK11 := Lib.hid ((only_setCells g3 [.int .i64 9] (i * 8 + 2) w10).keeps HK10.out hm3)
      have HN6 := Lib.hid (show N ≤ 1000000 by omega)
      clear hr10 hcx ho11 hi11
      refine Lib.hid ?_
      go_wp2_with (first | (go_at_call 13; refine (HJC.out _ (some ⟨g3, 0, none⟩) N c3 HN6.out HI11.out).mono ?_; rintro _ w12 ⟨rfl, k12⟩; have HK12 := Lib.hid (Keeps.trans HK11.out k12); clear k12) | (go_at_call 11; refine (awake8_any w _ (HKX.out.trans (HK1.out.trans (HK9.out.trans HK12.out)))).mono ?_; rintro _ w13 ⟨rfl, k13⟩))
      go_ret
      exact ⟨rfl, k13⟩
    · refine Lib.hid ?_
      refine wp_catS rfl _ _ rfl (base := w6.heap.size) (L := SL.drop (i + 1)) HO7.out rfl rfl ?hIqb ?hlqb ?hbqb ?hhqb
      case hIqb => exact (show IsE secT w7 (some ⟨g1, (i + 1) * 8, none⟩) (N - (i + 1)) (SL.drop (i + 1)) by have e := HI7.out.drop (i := i + 1) (by rw [HN.out]; omega); rw [Nat.zero_add] at e; exact e)
      case hlqb => rw [List.length_take, List.length_drop, HN.out]; omega
      case hbqb => exact Below.size HK7.out
      intro v8 w8 own8 grow8
      obtain ⟨a8, c8, rfl, is8, _⟩ := own8.is
      obtain ⟨M, hM⟩ : ∃ M, (SL.take i ++ SL.drop (i + 1)).length = M := ⟨_, rfl⟩
      rw [hM] at is8 ⊢
      have HI8 := Lib.hid is8
      have HM := Lib.hid (show M ≤ 1000000 by rw [← hM, List.length_append, List.length_take, List.length_drop, HN.out]; omega)
      clear hM
      have HK8 := Lib.hid (Keeps.grown HK7.out grow8 HO7.out.block)
      clear own8 is8 grow8
      go_wp2_with (first | (go_at_call 13; refine (HJB.out _ a8 M c8 HM.out HI8.out).mono ?_; rintro _ w9 ⟨rfl, k9⟩; have HK9 := Lib.hid (Keeps.trans HK6.out (Keeps.trans HK8.out k9)); have HI9 := Lib.hid (HI1.out.keeps HK9.out); clear k9) | (at_builtin; refine wp_catS rfl _ _ rfl (base := w9.heap.size) (OwnE.nil _ _) rfl rfl HI9.out (by rw [HN.out]; simp; omega) (Nat.le_refl _) ?_; intro v10 w10 own10 grow10; rw [List.nil_append] at own10; obtain ⟨g3, c3, rfl, hbk3, hm3, hc3, hg3⟩ := own10.blk HNE.out; rw [HN.out] at own10 hc3 ⊢; have HO10 := Lib.hid own10; have HK10 := Lib.hid (Keeps.grown (Keeps.refl w9) grow10 (fun k e => by cases e)); clear own10 grow10; refine RowKit.Hid.out ?_))
      have hr10 := (HO10.out.secs (by have := HNN.out; omega) HN.out.symm).row i hi
      rw [HGI.out, Nat.zero_add] at hr10
      have q2 : w10.cell? ⟨g3, i * 8 + 2, none⟩ = some (.int .i64 (mk 9 8 7 (ls t) i).ex) := hr10 2 _ rfl
      have fz2 : w10.frozen? ⟨g3, i * 8 + 2, none⟩ = false := (HO10.out.there (i := i) (by rw [HN.out]; exact hi) 2 (by decide)).2
      have hcx := cells_ext (SL := SL) (i := i) (by rw [HN.out]; exact hi) HGI.out
      have ho11 := HO10.out.write (l' := SL.set i { mk 9 8 7 (ls t) i with ex := 9 }) (o := i * 8 + 2) [.int .i64 9] (by show i * 8 + 2 + 1 ≤ SL.length * 8; rw [HN.out]; omega) (List.length_set ..) hcx
      obtain ⟨a11, c11, he11, hi11, _⟩ := ho11.is
      rw [List.length_set, HN.out] at he11 hi11
      simp only [Value.slice.injEq] at he11
      obtain ⟨rfl, _, rfl⟩ := he11
      have HI11 := Lib.hid hi11
      have HK11 := Lib.hid ((only_setCells g3 [.int .i64 9] (i * 8 + 2) w10).keeps HK10.out hm3)
      have HN6 := Lib.hid (show N ≤ 1000000 by omega)
      clear hr10 hcx ho11 hi11
      refine Lib.hid ?_
      go_wp2_with (first | (go_at_call 13; refine (HJC.out _ (some ⟨g3, 0, none⟩) N c3 HN6.out HI11.out).mono ?_; rintro _ w12 ⟨rfl, k12⟩; have HK12 := Lib.hid (Keeps.trans HK11.out k12); clear k12) | (go_at_call 11; refine (awake8_any w _ (HKX.out.trans (HK1.out.trans (HK9.out.trans HK12.out)))).mono ?_; rintro _ w13 ⟨rfl, k13⟩))
      go_ret
      exact ⟨rfl, k13⟩
theorem walk (t : ByteArray) (ht : t.size ≤ maxLen) (two : List Int) (h2 : two.length = 2) (hw : ∀ x ∈ two, (Lit.int .i64 x).wf = true) (w : World) :
    Calls Try.prog 3 #[.string t, .agg (two.map (.int .i64)).toArray] w fun e w' => e = .returned (.bool true) ∧ Below w.heap.size w w' := by
  match two, h2 with
  | [p, q], _ =>
    by_cases h4 : t.size ≤ 4084
    · exact off t p q w (.inl h4)
    · by_cases h9 : t.size ≤ 9000
      · exact core t p q w h4 h9
      · exact off t p q w (.inr ⟨h4, h9⟩)


theorem own : ownKnob Try.prog.godebug = none := by kernel_rfl
theorem laidOut : laidOutB Try.prog = true := by kernel_rfl
set_option maxRecDepth 100000 in
theorem lifted (os : Os) (started : os.Started) (H : Type) (enc : TypeId × Value → H) :
    ReturnsInHanded {} Try.checked os 3 .any (Rows.sectionOrderSpec.pre6 enc Try.prog Try.f3 Rows.sectionOrderRow.domain false) (Rows.sectionOrderSpec.post enc Try.prog Try.f3 false true false false) := by
  refine returnsInHanded_of_change (C := Try.checked) own started (by kernel_rfl) Try.func3
    (ChangeSpec.witness6 (enc := enc) (C := Try.checked) false ⟨#[], #[.string ByteArray.empty, .agg #[.int .i64 0, .int .i64 0]], []⟩ 8 (by kernel_rfl) (by kernel_rfl) (by kernel_rfl) (by kernel_rfl)) ?_
  intro W base args ds gs before hval0 hW hcnd _
  have hval : ∀ (j : Nat) t v, Try.f3.params[j]? = some t → args[j]? = some v → Value.okWide Try.prog W .any base t v := hval0
  have hW' := hW
  obtain ⟨p, q, hA0, hV, rfl, hfz, hnd⟩ := hW
  have hA : DataW.TrodAll enc Try.prog W 0 (fun _ => true) true Try.f3.params.toList args.toList ds p := hA0
  rw [Try.params3] at hA hval
  obtain ⟨v0, vs0, d0, ds0, p0, q0, hargs, rfl, rfl, h0, r0⟩ := trodAll_cons hA
  obtain ⟨v1, vs1, d1, ds1, p1, q1, rfl, rfl, rfl, h1, r1⟩ := trodAll_cons r0
  obtain ⟨rfl, rfl, rfl⟩ := trodAll_nil r1
  obtain rfl : args = #[v0, v1] := by cases args; simp_all
  obtain ⟨rfl, rfl⟩ := trodVars_none hV
  obtain ⟨a0, rfl, rfl, rfl, w0⟩ := open_string Try.underlying9 (hval 0 9 v0 rfl rfl) h0
  have k1 := h1
  have lt1 : ∀ x ∈ p1, x.block < W.heap.size := by obtain ⟨m, hm⟩ := k1; exact DataW.trod_lt m _ _ _ hm
  obtain ⟨x1, n1, rfl, wx1⟩ := open_arr Try.underlying22 Try.underlying3 (by kernel_rfl) (by kernel_rfl) (hval 1 22 v1 rfl rfl) h1
  clear hA0 hval0
  refine (walk a0 w0 x1 n1 wx1 W).mono fun e W' ⟨he, bel⟩ => ?_
  subst he
  exact ⟨_, rfl, _, _, _, [], _, [], hW', trodAll_mk1 (shut_bool Try.underlying4 _), (trodAll_cons_mk (shut_string Try.underlying9 w0) (trodAll_cons_mk (Below.trod laidOut (by kernel_rfl) (of_decide_eq_true (by kernel_rfl)) k1 bel lt1) trodAll_mk0)), rfl, bel.frame _, fun h => by cases h⟩

theorem over : Rows.sectionOrderRow.holds Try.pinned (OpenSpec.ofChange Rows.sectionOrderSpec) :=
  OpenClaim.holds_of_wide 3 Try.f3 rfl rfl rfl rfl rfl rfl rfl ⟨rfl, rfl, rfl, rfl, rfl⟩ rfl rfl rfl rfl rfl (by kernel_rfl) Try.func3 (by kernel_rfl)
    (of_decide_eq_true (by kernel_rfl)) (by unfold Func.isWrapper; first | (rw [if_pos (by decide +kernel)]; kernel_rfl) | (rw [if_neg (by decide +kernel)]; exact ⟨rfl, rfl⟩))
    (fun os started H enc _ => lifted os started H enc)

theorem proved : Rows.SectionOrderSaid := over
#print axioms proved
end Go.Proofs.Ytofnokikjfmfgaa.sectionOrder
