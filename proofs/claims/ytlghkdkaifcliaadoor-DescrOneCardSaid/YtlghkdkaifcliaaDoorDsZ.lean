/-
  What takeLoop and takeEntry of package descr answer. The memory that was there stays.
-/
import Derived.Test.YtlghkdkaifcliaaDoorDsY
namespace Go.Proofs.YtlghkdkaifcliaaDoor
open Go.RowKit Gf Ds
set_option maxRecDepth 100000
set_option linter.unusedVariables false
set_option linter.unusedSimpArgs false
theorem parse_len (s : List UInt8) : (parse s).1.length ≤ 4095 := by
  by_cases h : (parse s).2 = 0
  · obtain ⟨⟨_, h1⟩, h2⟩ := parse_good h
    have key : ∀ l : List Dsc, l.length ≤ (lpB l).length := by
      intro l
      induction l with
      | nil => exact Nat.zero_le _
      | cons d l ih =>
        show l.length + 1 ≤ (dsB d ++ lpB l).length
        rw [List.length_append, dsB_length]; omega
    exact Nat.le_trans (key _) h1
  · have e : (parse s).1 = [] := by
      by_cases hl : 4095 < s.length
      · rw [parse_long hl]
      · cases hp : prs s with
        | none => rw [parse_none hl hp]
        | some l => rw [parse_some hl hp] at h; exact absurd rfl h
    rw [e]; exact Nat.zero_le _
theorem parse_nil {s : List UInt8} (h : (parse s).2 ≠ 0) : (parse s).1 = [] := by
  by_cases hl : 4095 < s.length
  · rw [parse_long hl]
  · cases hp : prs s with
    | none => rw [parse_none hl hp]
    | some l => rw [parse_some hl hp] at h; exact absurd rfl h
def lnN (l : List UInt8) : Nat := (cf l 0).toNat % 16 * 256 + (cf l 1).toNat
def tkL (l : List UInt8) : List Dsc × List UInt8 × Int :=
  if l.length < 2 then ([], [], 10) else if l.length < 2 + lnN l then ([], [], 10) else
    if (parse ((l.drop 2).take (lnN l))).2 = 0 then ((parse ((l.drop 2).take (lnN l))).1, l.drop (2 + lnN l), 0) else ([], [], (parse ((l.drop 2).take (lnN l))).2)
theorem tkL_few {l : List UInt8} (h : l.length < 2) : tkL l = ([], [], 10) := if_pos h
theorem tkL_short {l : List UInt8} (h : ¬ l.length < 2) (k : l.length < 2 + lnN l) : tkL l = ([], [], 10) := by unfold tkL; rw [if_neg h, if_pos k]
theorem tkL_bad {l : List UInt8} (h : ¬ l.length < 2) (k : ¬ l.length < 2 + lnN l) (p : (parse ((l.drop 2).take (lnN l))).2 ≠ 0) : tkL l = ([], [], (parse ((l.drop 2).take (lnN l))).2) := by unfold tkL; rw [if_neg h, if_neg k, if_neg p]
theorem tkL_go {l : List UInt8} (h : ¬ l.length < 2) (k : ¬ l.length < 2 + lnN l) (p : (parse ((l.drop 2).take (lnN l))).2 = 0) : tkL l = ((parse ((l.drop 2).take (lnN l))).1, l.drop (2 + lnN l), 0) := by unfold tkL; rw [if_neg h, if_neg k, if_pos p]
theorem tkL_of {l : List Dsc} (h : okL l) (X : List UInt8) : tkL (lnB l ++ X) = (l, X, 0) := by
  have hz := h.2
  have e : lnB l ++ X = Ds.u8 (240 + (lpB l).length / 256) :: Ds.u8 (lpB l).length :: (lpB l ++ X) := by unfold lnB; simp
  have c0 : cf (lnB l ++ X) 0 = Ds.u8 (240 + (lpB l).length / 256) := by rw [e]; rfl
  have c1 : cf (lnB l ++ X) 1 = Ds.u8 (lpB l).length := by rw [e]; rfl
  have hn : lnN (lnB l ++ X) = (lpB l).length := by
    unfold lnN
    rw [c0, c1, u8_nat (by omega), ← u8_mod, u8_nat (Nat.mod_lt _ (by decide))]
    omega
  have hd : (lnB l ++ X).drop 2 = lpB l ++ X := by rw [e]; rfl
  have hl : (lnB l ++ X).length = (lpB l).length + 2 + X.length := by rw [List.length_append, lnB_length]
  have hp : ((lnB l ++ X).drop 2).take (lnN (lnB l ++ X)) = lpB l := by rw [hd, hn, List.take_left]
  rw [tkL_go (by omega) (by rw [hn]; omega) (by rw [hp, parse_loop h]), hp, parse_loop h, hn]
  have hdd : (lnB l ++ X).drop (2 + (lpB l).length) = X := by rw [← List.drop_drop, hd, List.drop_left]
  rw [hdd]
/-- takeLoop's answer, in memory. -/
def ElP (w : World) (q : List Dsc × List UInt8 × Int) (e : Ending) (w' : World) : Prop :=
  ∃ a c, e = .returned (.tuple #[.slice a q.1.length c, .string (st q.2.1), .int .i64 q.2.2]) ∧ IsE rowD w' a q.1.length q.1 ∧ q.1.length ≤ c ∧ q.1.length ≤ 4095 ∧ (∀ x, a = some x → w.heap.size ≤ x.block) ∧ Keeps w w'
theorem ElP.no {w W : World} {q : List Dsc × List UInt8 × Int} {n : Int} (h : q = ([], [], n)) (k : Keeps w W) : ElP w q (.returned (.tuple #[.slice none 0 0, .string ⟨#[]⟩, .int .i64 n])) W := by
  subst h
  exact ⟨none, 0, rfl, IsE.nil _ _, Nat.le_refl _, Nat.zero_le _, fun x hx => (by cases hx), k⟩
set_option maxHeartbeats 6400000 in
theorem etl_any (s : ByteArray) (w : World) (hs : s.size ≤ 1000000) (hT : TL w) : Calls Tryd.prog 60 #[.string s] w (ElP w (tkL (ls s))) := by
  have hl := ls_size s
  have HBY := Lib.hid (fun W => dbytes_any (ws := wsL) rfl (by decide) (n := 2) rfl W)
  have HT := Lib.hid (fun W (k : Keeps w W) => hT.keeps k)
  clear hT
  by_cases h2 : s.size < 2
  · have HE := Lib.hid (tkL_few (l := ls s) (by omega))
    have h2i : (s.size : Int) < 2 := by omega
    clear h2 hl
    go_enter Tryd.func60, Tryd.ntmps60
    go_wp2_with (first | (refine dwp_ldG (g := 5) (l := wsL) (HT.out _ (Keeps.refl _)) rfl _ rfl rfl ?_) | (go_at_call 49; refine (HBY.out _).mono ?_; rintro _ w1 ⟨rfl, k1⟩; have HK1 := Lib.hid k1; clear k1))
    go_ret3
    exact ElP.no HE.out HK1.out
  · have h2i : ¬ (s.size : Int) < 2 := by omega
    have HRD := Lib.hid (fun W => dread_any (ws := wsL) rfl gn_L rfl (by decide) (S := s) (by show 16 / 8 ≤ s.size; omega) hs W)
    obtain ⟨c0, c1, r, hlr⟩ : ∃ a b r, ls s = a :: b :: r := by
      rcases hx : ls s with _ | ⟨a, _ | ⟨b, r⟩⟩
      · rw [hx] at hl; simp only [List.length_nil] at hl; omega
      · rw [hx] at hl; simp only [List.length_cons, List.length_nil] at hl; omega
      · exact ⟨a, b, r, rfl⟩
    have hln : lnN (ls s) = c0.toNat % 16 * 256 + c1.toNat := by rw [hlr]; rfl
    rw [show rdW wsL (ls s) = rdW wsL (c0 :: c1 :: r) by rw [hlr], rdL] at HRD
    have b0 := c0.toNat_lt
    have b1 := c1.toNat_lt
    obtain ⟨M, hM⟩ : ∃ M, c0.toNat / 16 = M := ⟨_, rfl⟩
    obtain ⟨N, hN⟩ : ∃ N, c0.toNat % 16 * 256 + c1.toNat = N := ⟨_, rfl⟩
    rw [hM, hN] at HRD
    rw [hN] at hln
    replace HRD := Lib.hid (fun W => show Calls Tryd.prog 50 #[nV (il wsL), .string s] W fun e w' => e = .returned (.agg #[.int .i64 (M : Int), .int .i64 (N : Int), .int .i64 0, .int .i64 0, .int .i64 0, .int .i64 0, .int .i64 0, .int .i64 0, .int .i64 0]) ∧ Keeps W w' from HRD.out W)
    have hri : ∀ W, (Instr.index 111 (.agg #[.int .i64 (M : Int), .int .i64 (N : Int), .int .i64 0, .int .i64 0, .int .i64 0, .int .i64 0, .int .i64 0, .int .i64 0, .int .i64 0]) (.int .i64 1)).run Tryd.prog W = .ok (.int .i64 (N : Int)) W := fun W => run_ixN (k := 1) (by decide) rfl W
    have HSH := (fun k => tkL_short (l := ls s) (by omega) k)
    have HBD := (fun k p => tkL_bad (l := ls s) (by omega) k p)
    have HGO := (fun k p => tkL_go (l := ls s) (by omega) k p)
    rw [hln] at HSH HBD HGO
    obtain ⟨E, hE⟩ : ∃ E, 2 + N = E := ⟨_, rfl⟩
    have e1 : 2 + (N : Int) = (E : Int) := by omega
    have v1 := wrapI (a := (E : Int)) (by omega) (by omega)
    rw [hE] at HSH HBD HGO
    by_cases hsh : s.size < E
    · have HE := Lib.hid (HSH (by omega))
      have hshi : (s.size : Int) < (E : Int) := by omega
      clear h2 hl hlr hln b0 b1 hM hN HSH HBD HGO hE hsh
      go_enter Tryd.func60, Tryd.ntmps60
      go_wp2_with (first | (refine dwp_ldG (g := 5) (l := wsL) (HT.out _ (Keeps.refl _)) rfl _ rfl rfl ?_) | (go_at_call 49; refine (HBY.out _).mono ?_; rintro _ w1 ⟨rfl, k1⟩; have HK1 := Lib.hid k1; clear k1) | (refine dwp_ldG (g := 5) (l := wsL) (HT.out _ HK1.out) rfl _ rfl rfl ?_) | (go_at_call 50; refine (HRD.out _).mono ?_; rintro _ w2 ⟨rfl, k2⟩; have HK2 := Lib.hid (HK1.out.trans k2); clear k2))
      go_ret3
      exact ElP.no HE.out HK2.out
    · have hshi : ¬ (s.size : Int) < (E : Int) := by omega
      have hEi : (E : Int) ≤ (s.size : Int) := by omega
      have hEn : E ≤ s.size := by omega
      have h2E : (2 : Int) ≤ (E : Int) := by omega
      have h2N : 2 ≤ E := by omega
      replace HBD := fun p => HBD (by omega) p
      replace HGO := fun p => HGO (by omega) p
      obtain ⟨P, hP⟩ : ∃ P, s.extract 2 E = P := ⟨_, rfl⟩
      have hPl : ls P = ((ls s).drop 2).take N := by rw [← hP, ls_part, ← hE, Nat.add_sub_cancel_left]
      have HPA := Lib.hid (fun W => eparse_any P W (by rw [← hP, ByteArray.size_extract]; omega))
      have hfew := parse_len (ls P)
      have hnil := parse_nil (s := ls P)
      rw [← hPl] at HBD HGO
      obtain ⟨Q, hQ⟩ : ∃ Q, parse (ls P) = Q := ⟨_, rfl⟩
      rw [hQ] at HPA hfew hnil HBD HGO
      obtain ⟨m, G⟩ := Q
      simp only at hfew hnil HBD HGO
      unfold EaPost at HPA
      by_cases hG : G = 0
      · subst hG
        have HE := Lib.hid (HGO rfl)
        obtain ⟨V, hV⟩ : ∃ V, s.extract E s.size = V := ⟨_, rfl⟩
        have HVE := Lib.hid (show st ((ls s).drop E) = V by rw [← hV, ds_from])
        have HFW := Lib.hid hfew
        obtain ⟨K, hK⟩ : ∃ K, m.length = K := ⟨_, rfl⟩
        have HKK := Lib.hid hK
        simp only [hK] at HPA
        clear h2 hl hlr hln b0 b1 hM hN HSH HBD HGO hE hsh hPl hQ hfew hnil hK
        go_enter Tryd.func60, Tryd.ntmps60
        go_wp2_with (first | (refine dwp_ldG (g := 5) (l := wsL) (HT.out _ (Keeps.refl _)) rfl _ rfl rfl ?_) | (go_at_call 49; refine (HBY.out _).mono ?_; rintro _ w1 ⟨rfl, k1⟩; have HK1 := Lib.hid k1; clear k1) | (refine dwp_ldG (g := 5) (l := wsL) (HT.out _ HK1.out) rfl _ rfl rfl ?_) | (go_at_call 50; refine (HRD.out _).mono ?_; rintro _ w2 ⟨rfl, k2⟩; have HK2 := Lib.hid (HK1.out.trans k2); clear k2) | (go_at_call 15; refine (HPA.out _).mono ?_; rintro _ w3 ⟨a3, c3, rfl, hi3, hc3, hb3, k3⟩; have HK3 := Lib.hid (HK2.out.trans k3); have HI3 := Lib.hid hi3; have HC3 := Lib.hid hc3; have HB3 := Lib.hid (fun x hx => Nat.le_trans (Below.size HK2.out) (hb3 x hx)); clear hi3 hc3 hb3 k3))
        go_quiet (fail)
        obtain ⟨w4, hw4⟩ : ∃ W, w3.drewN nq = W := ⟨_, rfl⟩
        have hq4 : Eqv w3 w4 := by rw [← hw4]; exact Eqv.drewN _ _
        rw [hw4]
        have HF := Lib.hid (show ElP w (tkL (ls s)) (.returned (.tuple #[.slice a3 K c3, .string V, .int .i64 0])) w4 by
          rw [HE.out]
          refine ⟨a3, c3, by rw [HKK.out, HVE.out], ?_, by rw [HKK.out]; exact HC3.out, HFW.out, HB3.out, HK3.out.eqv hq4⟩
          have := HI3.out.eqv hq4
          show IsE rowD w4 a3 m.length m
          rw [HKK.out]; exact this)
        clear hw4 hq4
        go_wp2
        go_ret3
        exact HF.out
      · have HE := Lib.hid (HBD hG)
        have hm := hnil hG
        subst hm
        have hGf : (G != 0) = true := bne_iff_ne.2 hG
        rw [show ([] : List Dsc).length = 0 from rfl] at HPA
        clear h2 hl hlr hln b0 b1 hM hN HSH HBD HGO hE hsh hPl hQ hfew hnil hG
        go_enter Tryd.func60, Tryd.ntmps60
        go_wp2_with (first | (refine dwp_ldG (g := 5) (l := wsL) (HT.out _ (Keeps.refl _)) rfl _ rfl rfl ?_) | (go_at_call 49; refine (HBY.out _).mono ?_; rintro _ w1 ⟨rfl, k1⟩; have HK1 := Lib.hid k1; clear k1) | (refine dwp_ldG (g := 5) (l := wsL) (HT.out _ HK1.out) rfl _ rfl rfl ?_) | (go_at_call 50; refine (HRD.out _).mono ?_; rintro _ w2 ⟨rfl, k2⟩; have HK2 := Lib.hid (HK1.out.trans k2); clear k2) | (go_at_call 15; refine (HPA.out _).mono ?_; rintro _ w3 ⟨a3, c3, rfl, hi3, hc3, hb3, k3⟩; have HK3 := Lib.hid (HK2.out.trans k3); clear hi3 hc3 hb3 k3))
        go_ret3
        exact ElP.no HE.out HK3.out
def tkE (l : List UInt8) : (List Dsc × List Dsc) × List UInt8 × Int :=
  if (tkL l).2.2 ≠ 0 then (([], []), [], (tkL l).2.2) else if (tkL (tkL l).2.1).2.2 ≠ 0 then (([], []), [], (tkL (tkL l).2.1).2.2) else (((tkL l).1, (tkL (tkL l).2.1).1), (tkL (tkL l).2.1).2.1, 0)
theorem tkE_of {p : List Dsc × List Dsc} (h1 : okL p.1) (h2 : okL p.2) (X : List UInt8) : tkE (lnB p.1 ++ (lnB p.2 ++ X)) = (p, X, 0) := by
  unfold tkE
  rw [tkL_of h1, if_neg (fun k => k rfl)]
  show (if (tkL (lnB p.2 ++ X)).2.2 ≠ 0 then _ else _) = _
  rw [tkL_of h2, if_neg (fun k => k rfl)]
/-- takeEntry's answer, in memory. -/
def EeP (w : World) (q : (List Dsc × List Dsc) × List UInt8 × Int) (e : Ending) (w' : World) : Prop :=
  ∃ en : EnR, e = .returned (.tuple #[.agg #[.slice en.ta en.tn en.tc, .slice en.oa en.on en.oc], .string (st q.2.1), .int .i64 q.2.2]) ∧ (q.2.2 = 0 → IsE rowD w' en.ta en.tn q.1.1 ∧ IsE rowD w' en.oa en.on q.1.2 ∧ en.tn ≤ 4095 ∧ en.on ≤ 4095 ∧ (∀ x, en.ta = some x → w.heap.size ≤ x.block) ∧ (∀ x, en.oa = some x → w.heap.size ≤ x.block)) ∧ Keeps w w'
theorem lvEn {w : World} {b : Nat} {s : EnR} (h : w.rangeAt b 0 (enC s)) : (loadVar 119 ⟨b, 0, none⟩).run Tryd.prog w = .ok (.agg #[.slice s.ta s.tn s.tc, .slice s.oa s.on s.oc]) w := run_loadVar_mid (P := Tryd.prog) w b 0 _ (enC s) _ h Tryd.underlying119 rfl (by kernel_rfl)
theorem wp_stEn {ops : Array Oper} {rest : List Oper} {o : Oper} {a : Act} {w : World} {Q : Exit → Act → World → Prop} {b off : Nat} (s : EnR) (h : w.there b off 2) (hgd : o.guard = none) (x y : Operand) (ho : o.op = .store 119 x y)
    (hx : a.eval x = .pointer (some ⟨b, off, none⟩)) (hy : a.eval y = .agg #[.slice s.ta s.tn s.tc, .slice s.oa s.on s.oc]) (k : wpList Tryd.prog ops Q rest (a.put o.dst undef) (w.setCells b off (enC s))) : wpList Tryd.prog ops Q (o :: rest) a w :=
  wpList_store_mid hgd _ x y ho b off (enC s).toArray hx hy h (by kernel_rfl) (all_oneCell_toArray (enC_one s)) k
def enZ : EnR := ⟨none, 0, 0, none, 0, 0⟩
set_option maxHeartbeats 6400000 in
theorem ete_any (s : ByteArray) (w : World) (hs : s.size ≤ 1000000) (hT : TL w) : Calls Tryd.prog 61 #[.string s] w (EeP w (tkE (ls s))) := by
  obtain ⟨b, hb⟩ : ∃ b, w.heap.size = b := ⟨_, rfl⟩
  obtain ⟨wA, hA⟩ : ∃ wX, w.alloc (.cells #[.slice none 0 0, .slice none 0 0] 119) = wX := ⟨_, rfl⟩
  have A0 := Lib.hid (show CsAns w b (enC enZ) wA from CsAns.start (Keeps.refl w) (by simp) hb hA)
  have HTL := Lib.hid (fun W (k : Keeps wA W) => hT.keeps (A0.out.k.trans k))
  have HL1 := Lib.hid (etl_any s wA hs (hT.keeps A0.out.k))
  have HL2 := Lib.hid (fun (S : ByteArray) (hz : S.size ≤ 1000000) (W : World) (k : Keeps wA W) => etl_any S W hz (hT.keeps (A0.out.k.trans k)))
  have hrest : (tkL (ls s)).2.1.length ≤ 1000000 := by
    have hl := ls_size s
    unfold tkL
    split
    · simp
    · split
      · simp
      · split
        · show (List.drop _ _).length ≤ _; rw [List.length_drop]; omega
        · simp
  unfold tkE
  obtain ⟨Q, hQ⟩ : ∃ Q, tkL (ls s) = Q := ⟨_, rfl⟩
  rw [hQ] at HL1 hrest ⊢
  obtain ⟨m, R, G⟩ := Q
  simp only at hrest ⊢
  unfold ElP at HL1 HL2
  obtain ⟨S, hS⟩ : ∃ S, st R = S := ⟨_, rfl⟩
  have hSl : ls S = R := by rw [← hS, ls_st]
  have hSz : S.size ≤ 1000000 := by rw [← hS, st_size]; exact hrest
  simp only [hS] at HL1
  obtain ⟨K, hK⟩ : ∃ K, m.length = K := ⟨_, rfl⟩
  simp only [hK] at HL1
  clear hT hs hQ hrest hS
  by_cases hG : G = 0
  · subst hG
    rw [if_neg (fun k => k rfl)]
    replace HL2 := Lib.hid (HL2.out S hSz)
    rw [hSl] at HL2
    obtain ⟨Q2, hQ2⟩ : ∃ Q, tkL R = Q := ⟨_, rfl⟩
    rw [hQ2] at HL2 ⊢
    obtain ⟨m2, R2, G2⟩ := Q2
    obtain ⟨S2, hS2⟩ : ∃ S, st R2 = S := ⟨_, rfl⟩
    obtain ⟨K2, hK2⟩ : ∃ K, m2.length = K := ⟨_, rfl⟩
    simp only [hS2, hK2] at HL2 ⊢
    clear hSl hSz hQ2
    by_cases hG2 : G2 = 0
    · subst hG2
      rw [if_neg (fun k => k rfl)]
      have HK := Lib.hid hK
      have HK2' := Lib.hid hK2
      have HS2 := Lib.hid hS2
      clear hK hK2 hS2
      go_enter Tryd.func61, Tryd.ntmps61
      go_wp2_with (first | (go_at_call 60; (with_reducible refine HL1.out.mono ?_); rintro _ w3 ⟨a3, c3, rfl, hi3, hc3, hz3, hb3, k3⟩; have HK3 := Lib.hid k3; have HI3 := Lib.hid hi3; have HZ3 := Lib.hid hz3; have HB3 := Lib.hid hb3; clear hi3 hc3 hz3 hb3 k3) | (go_at_call 60; (with_reducible refine (HL2.out w3 HK3.out).mono ?_); rintro _ w4 ⟨a4, c4, rfl, hi4, hc4, hz4, hb4, k4⟩; have HK4 := Lib.hid (HK3.out.trans k4); have HI4 := Lib.hid hi4; have HI34 := Lib.hid (HI3.out.keeps k4); have HZ4 := Lib.hid hz4; have HB4 := Lib.hid (fun x hx => Nat.le_trans (Below.size HK3.out) (hb4 x hx)); have HA4 := Lib.hid (A0.out.keeps HK4.out); clear hi4 hc4 hz4 hb4 k4) | (refine wp_stEn (b := b) (off := 0) ⟨a3, K, c3, a4, K2, c4⟩ (HA4.out.z.there (by decide)) rfl _ _ rfl rfl rfl ?_))
      have E := HA4.out.ends (enC ⟨a3, K, c3, a4, K2, c4⟩) rfl
      have kf : Foot (fun k => k = b) w4 (w4.setCells b 0 (enC ⟨a3, K, c3, a4, K2, c4⟩)) := (only_setCells b (enC ⟨a3, K, c3, a4, K2, c4⟩) 0 w4).foot (S := fun k => k = b) rfl
      have hbo := A0.out.z.old
      refine dcs_ret3 Tryd.results61 (lvEn (s := ⟨a3, K, c3, a4, K2, c4⟩) E.z.r) rfl rfl rfl rfl ?_
      refine ⟨⟨a3, K, c3, a4, K2, c4⟩, by (rw [← HS2.out] <;> rfl), fun _ => ⟨?_, ?_, ?_, ?_, fun x hx => Nat.le_trans (Below.size A0.out.k) (HB3.out x hx), fun x hx => Nat.le_trans (Below.size A0.out.k) (HB4.out x hx)⟩, E.k⟩
      · exact IsE.foot (by rw [← HK.out]; rw [← HK.out] at HI34; exact HI34.out) kf (fun x hx e => by have := HB3.out x hx; have e : x.block = b := e; omega)
      · exact IsE.foot (by rw [← HK2'.out]; rw [← HK2'.out] at HI4; exact HI4.out) kf (fun x hx e => by have := HB4.out x hx; have e : x.block = b := e; omega)
      · exact HZ3.out
      · exact HZ4.out
    · rw [if_pos hG2]
      have hne : (G2 != 0) = true := bne_iff_ne.2 hG2
      have HG2 := Lib.hid hG2
      clear hK hK2 hS2 hG2
      go_enter Tryd.func61, Tryd.ntmps61
      go_wp2_with (first | (go_at_call 60; (with_reducible refine HL1.out.mono ?_); rintro _ w3 ⟨a3, c3, rfl, hi3, hc3, hz3, hb3, k3⟩; have HK3 := Lib.hid k3; clear hi3 hc3 hz3 hb3 k3) | (go_at_call 60; (with_reducible refine (HL2.out w3 HK3.out).mono ?_); rintro _ w4 ⟨a4, c4, rfl, hi4, hc4, hz4, hb4, k4⟩; have HA4 := Lib.hid (A0.out.keeps (HK3.out.trans k4)); clear hi4 hc4 hz4 hb4 k4) | (refine wp_stEn (b := b) (off := 0) enZ (HA4.out.z.there (by decide)) rfl _ _ rfl rfl rfl ?_))
      have E := HA4.out.ends (enC enZ) rfl
      refine dcs_ret3 Tryd.results61 (lvEn (s := enZ) E.z.r) rfl rfl rfl rfl ?_
      exact ⟨enZ, rfl, fun q => absurd q HG2.out, E.k⟩
  · rw [if_pos hG]
    have hne : (G != 0) = true := bne_iff_ne.2 hG
    have HG := Lib.hid hG
    clear hK hG HL2
    go_enter Tryd.func61, Tryd.ntmps61
    go_wp2_with (first | (go_at_call 60; (with_reducible refine HL1.out.mono ?_); rintro _ w3 ⟨a3, c3, rfl, hi3, hc3, hz3, hb3, k3⟩; have HA3 := Lib.hid (A0.out.keeps k3); clear hi3 hc3 hz3 hb3 k3) | (refine wp_stEn (b := b) (off := 0) enZ (HA3.out.z.there (by decide)) rfl _ _ rfl rfl rfl ?_))
    have E := HA3.out.ends (enC enZ) rfl
    refine dcs_ret3 Tryd.results61 (lvEn (s := enZ) E.z.r) rfl rfl rfl rfl ?_
    exact ⟨enZ, rfl, fun q => absurd q HG.out, E.k⟩
end Go.Proofs.YtlghkdkaifcliaaDoor
