/-
  For any two lists of descriptors DescrJoins returns true: the loop of both lists is that of the one, and that of the other one, and both loops together are read as both lists; nothing that was there is changed. The tables of widths of package descr start as the program lays them.
-/
import Derived.SevenTiedAt
import Derived.Test.YtlghkdkaifcliaaDoorRows
import Derived.Test.YtlghkdkaifcliaaDoorCards
import Derived.Test.YtlghkdkaifcliaaDoorTie
import Derived.Test.YtlghkdkaifcliaaDoorDsH
import Derived.Test.YtlghkdkaifcliaaDoorDsI
import Derived.Test.YtlghkdkaifcliaaDoorDsF
namespace Go.Proofs.YtlghkdkaifcliaaDoor.descrJoins
open Go.ChangeShapes Go.WideShapes Go.ChangeAt Go.RowKit Gf Ds
set_option maxRecDepth 100000
open Go.ChangeMaps (open_string shut_string)
set_option linter.unusedVariables false
set_option linter.unusedSimpArgs false
theorem run_catD (a : Option Addr) (len cap : Nat) (hlc : len ≤ cap) (ax : Option Addr) (c : Nat) (ty : TypeId) (w : World) : (Builtin.append_ #[22, 22] ty #[.slice a len cap, .slice ax 0 c]).run Tryd.prog w = .ok (.slice a len cap) w := by
  have hst : ∀ (p : Addr) (w : World), (storeCells p []).run Tryd.prog w = .ok () w := fun _ _ => rfl
  obtain ⟨i0, hi, -, -, -⟩ := info_parts rowD.info
  have hi' : Tryd.prog.info? 37 = some i0 := hi
  cases ax <;> cases a <;> simp [hlc, hst, Builtin.append_, run_underlying Tryd.underlying22, Builtin.lenOf, Builtin.firstCells, sizeOf, typeInfo, hi', loadCells, loadCellsFrom]
theorem wp_catD {ops : Array Oper} {rest : List Oper} {o : Oper} {a : Act} {Q : Exit → Act → World → Prop} {wr : World} (hgd : o.guard = none) (s x : Operand)
    (ho : o.op = .call { callee := .builtin .append, args := #[s, x], argTypes := #[22, 22] }) {base : Nat} {v : Value} {l L : List Dsc} (hown : OwnE rowD wr base v l)
    {ax : Option Addr} {n c : Nat} (hs : a.eval s = v) (hx : a.eval x = .slice ax n c) (hI : IsE rowD wr ax n L) (hl : l.length + L.length ≤ 1000000000) (hb : base ≤ wr.heap.size)
    (h : ∀ v' w', OwnE rowD w' base v' (l ++ L) → wr.grownBy w' v.ownBlock → wpList Tryd.prog ops Q rest (a.put o.dst v') w') :
    wpList Tryd.prog ops Q (o :: rest) a wr := by
  by_cases h0 : L = []
  · subst h0
    obtain rfl : n = 0 := hI.1
    obtain ⟨va, vc, hv, _, hlc⟩ := hown.is
    refine wpList_plain hgd fun _ hK => ?_
    have e : (execOp a.eval o).run Tryd.prog wr = .ok (.value v) wr := by
      rw [hv] at hs ⊢
      unfold execOp
      simp [ho, resolve, invoke, builtin, hs, hx, run_catD _ _ _ hlc, Result.andThen]
    unfold Oper.wp
    rw [e, Oper.upon_value]
    exact hK _ _ (h v wr (by rw [List.append_nil]; exact hown) (World.grownBy.refl _ _))
  · exact wp_catE (T := rowD) hgd s x ho hown hs hx hI h0 hl hb fun v' w' h1 h2 _ => h v' w' h1 h2
theorem join_bad {l m : List Dsc} (h : (loop l).2 ≠ 0 ∨ (loop m).2 ≠ 0 ∨ 4095 < (loop l).1.length + (loop m).1.length) : (loop (l ++ m)).2 ≠ 0 ∧ (loop (l ++ m)).1 = [] := by
  have key : (loop (l ++ m)).2 ≠ 0 := fun e => by
    obtain ⟨k1, k2⟩ := loop_good e
    rw [lpB_append, List.length_append] at k2
    have hl : okL l := ⟨fun d hd => k1 d (List.mem_append_left _ hd), by omega⟩
    have hm : okL m := ⟨fun d hd => k1 d (List.mem_append_right _ hd), by omega⟩
    rw [loop_ok hl, loop_ok hm] at h
    rcases h with h | h | h
    · exact h rfl
    · exact h rfl
    · have h : 4095 < (lpB l).length + (lpB m).length := h
      omega
  exact ⟨key, loop_bad key⟩
theorem join_good {l m : List Dsc} (h1 : (loop l).2 = 0) (h2 : (loop m).2 = 0) (h3 : ¬ 4095 < (loop l).1.length + (loop m).1.length) : loop (l ++ m) = ((loop l).1 ++ (loop m).1, 0) ∧ parse ((loop l).1 ++ (loop m).1) = (l ++ m, 0) := by
  have kl := loop_good h1
  have km := loop_good h2
  rw [loop_ok kl, loop_ok km] at h3 ⊢
  have h3 : ¬ 4095 < (lpB l).length + (lpB m).length := h3
  have ho : okL (l ++ m) := ⟨fun d hd => (List.mem_append.1 hd).elim (kl.1 d) (km.1 d), by rw [lpB_append, List.length_append]; omega⟩
  refine ⟨by rw [loop_ok ho, lpB_append], ?_⟩
  show parse (lpB l ++ lpB m) = _
  rw [← lpB_append]; exact parse_loop ho
theorem fewD_len {l : List Dsc} (h : fewD l = true) : l.length ≤ 40 := by unfold fewD at h; simp at h; exact h.2
theorem loop_len (l : List Dsc) : (loop l).1.length ≤ 4095 := by
  by_cases h : (loop l).2 = 0
  · have k := loop_good h
    rw [loop_ok k]; exact k.2
  · rw [loop_bad h]; exact Nat.zero_le _
set_option maxHeartbeats 6400000 in
theorem walk (a1 : Option Addr) (n1 c1 : Nat) (l : List Dsc) (w : World) (h1 : IsE rowD w a1 n1 l ∧ n1 ≤ maxLen) (a2 : Option Addr) (n2 c2 : Nat) (m : List Dsc) (h2 : IsE rowD w a2 n2 m ∧ n2 ≤ maxLen) (tS : TSX w) :
    Calls Tryd.prog 8 #[.slice a1 n1 c1, .slice a2 n2 c2] w fun e w' => e = .returned (.bool true) ∧ Below w.heap.size w w' := by
  obtain ⟨h1, b1⟩ := h1
  obtain ⟨h2, b2⟩ := h2
  have HAW := Lib.hid (fun W (q : Keeps w W) => awake18_any W (tS.keeps q))
  have HF1 := Lib.hid (fun (W : World) (q : Keeps w W) => dfew_any (cap := c1) W (h1.keeps q) b1)
  have HF2 := Lib.hid (fun (W : World) (q : Keeps w W) => dfew_any (cap := c2) W (h2.keeps q) b2)
  by_cases hf1 : fewD l = true
  · by_cases hf2 : fewD m = true
    · have z1 : n1 ≤ 40 := by have := fewD_len hf1; rw [← h1.1] at this; exact this
      have z2 : n2 ≤ 40 := by have := fewD_len hf2; rw [← h2.1] at this; exact this
      have HL1 := Lib.hid (fun W (q : Keeps w W) => eloop_any (cap := c1) W (h1.keeps q) (by omega))
      have HL2 := Lib.hid (fun W (q : Keeps w W) => eloop_any (cap := c2) W (h2.keeps q) (by omega))
      have HI1 := Lib.hid (fun W (q : Keeps w W) => h1.keeps q)
      have HI2 := Lib.hid (fun W (q : Keeps w W) => h2.keeps q)
      have zl1 := loop_len l
      have zl2 := loop_len m
      have HJB := Lib.hid (fun h => join_bad (l := l) (m := m) h)
      have HJG := Lib.hid (fun x y z => join_good (l := l) (m := m) x y z)
      have hlm : l.length + m.length ≤ 80 := by have := fewD_len hf1; have := fewD_len hf2; omega
      have hml : (l ++ m).length ≤ 80 := by rw [List.length_append]; exact hlm
      obtain ⟨LM, hLM⟩ : ∃ LM, l ++ m = LM := ⟨_, rfl⟩
      rw [hLM] at HJB HJG hml
      have HLQ := Lib.hid hLM
      have HL3 := Lib.hid (fun W v (h : OwnE rowD W w.heap.size v LM) => (show ∃ a c, v = .slice a LM.length c ∧ IsE rowD W a LM.length LM ∧ Calls Tryd.prog 12 #[.slice a LM.length c] W (DlPost W (loop LM)) from by
        obtain ⟨a, c, e, hi, _⟩ := h.is
        exact ⟨a, c, e, hi, eloop_any W hi (by omega)⟩))
      rw [hf1] at HF1
      rw [hf2] at HF2
      unfold DlPost at HL1 HL2 HL3
      obtain ⟨Q1, hQ1⟩ : ∃ Q, loop l = Q := ⟨_, rfl⟩
      obtain ⟨Q2, hQ2⟩ : ∃ Q, loop m = Q := ⟨_, rfl⟩
      rw [hQ1] at HL1 HJB HJG zl1
      rw [hQ2] at HL2 HJB HJG zl2
      obtain ⟨B1, E1⟩ := Q1
      obtain ⟨B2, E2⟩ := Q2
      simp only at HL1 HL2 HJB HJG zl1 zl2
      obtain ⟨S1, hS1⟩ : ∃ S, st B1 = S := ⟨_, rfl⟩
      obtain ⟨S2, hS2⟩ : ∃ S, st B2 = S := ⟨_, rfl⟩
      have hz1 : S1.size = B1.length := by rw [← hS1, st_size]
      have hz2 : S2.size = B2.length := by rw [← hS2, st_size]
      rw [hS1] at HL1
      rw [hS2] at HL2
      have HSS := Lib.hid (show S1 ++ S2 = st (B1 ++ B2) by rw [← hS1, ← hS2, st_append])
      have s1 : S1.size ≤ 4095 := by omega
      have s2 : S2.size ≤ 4095 := by omega
      have HZ1 := Lib.hid hz1
      have HZ2 := Lib.hid hz2
      have HB := Lib.hid b1
      have HLM := Lib.hid hlm
      have HML := Lib.hid hml
      have v1 := wrapI (a := (S1.size : Int) + (S2.size : Int)) (by omega) (by omega)
      clear hLM hQ1 hQ2 hS1 hS2 hz1 hz2 h1 h2 b1 b2 hf1 hf2 z1 z2 zl1 zl2 tS hml hlm
      by_cases hbad : E1 ≠ 0 ∨ E2 ≠ 0 ∨ 4095 < S1.size + S2.size
      · obtain ⟨g1, g2⟩ := HJB.out (by rcases hbad with h | h | h; exact .inl h; exact .inr (.inl h); exact .inr (.inr (by rw [← HZ1.out, ← HZ2.out]; exact h)))
        obtain ⟨Q3, hQ3⟩ : ∃ Q, loop LM = Q := ⟨_, rfl⟩
        rw [hQ3] at HL3 g1 g2
        obtain ⟨B3, E3⟩ := Q3
        simp only at HL3 g1 g2
        subst g2
        have e3 : (E3 != 0) = true := bne_iff_ne.2 g1
        rw [show st [] = (⟨#[]⟩ : ByteArray) from rfl] at HL3
        clear hQ3 g1
        by_cases x1 : E1 = 0
        · subst x1
          by_cases x2 : E2 = 0
          · subst x2
            have x3 : (4095 : Int) < (S1.size : Int) + (S2.size : Int) := by
              rcases hbad with h | h | h
              · exact absurd rfl h
              · exact absurd rfl h
              · omega
            clear hbad
            go_enter Tryd.func8, Tryd.ntmps8
            go_wp2_with (first | (go_at_call 10; (with_reducible refine (HF1.out _ (Keeps.refl _)).mono ?_); rintro _ _ ⟨rfl, rfl⟩) | (go_at_call 10; (with_reducible refine (HF2.out _ (Keeps.refl _)).mono ?_); rintro _ _ ⟨rfl, rfl⟩) | (go_at_call 12; (with_reducible refine (HL1.out _ (Keeps.refl _)).mono ?_); rintro _ w1 ⟨rfl, k1⟩; have HK1 := Lib.hid k1; clear k1) | (go_at_call 12; (with_reducible refine (HL2.out _ HK1.out).mono ?_); rintro _ w2 ⟨rfl, k2⟩; have HK2 := Lib.hid (HK1.out.trans k2); clear k2) | (at_builtin; refine wp_catD rfl _ _ rfl (OwnE.nil w2 w.heap.size) rfl rfl (HI1.out _ HK2.out) (by have := HLM.out; show 0 + l.length ≤ _; omega) (Below.size HK2.out) ?_; intro v3 w3 o3 g3; have HO3 := Lib.hid o3; have HK3 := Lib.hid (HK2.out.grown g3 (OwnE.nil (T := rowD) w2 w.heap.size).block); clear o3 g3) | (at_builtin; refine wp_catD rfl _ _ rfl HO3.out rfl rfl (HI2.out _ HK3.out) (by have := HLM.out; show ([] ++ l).length + m.length ≤ _; rw [List.nil_append]; omega) (Below.size HK3.out) ?_; intro v4 w4 o4 g4; have HK4 := Lib.hid (HK3.out.grown g4 HO3.out.block); obtain ⟨a4, c4, hv4, hi4, hc4⟩ := HL3.out w4 v4 (by rw [← HLQ.out]; exact o4); subst hv4; have HI4 := Lib.hid hi4; have HC4 := Lib.hid hc4; clear o4 g4 hi4 hc4) | (go_at_call 12; refine HC4.out.mono ?_; rintro _ w5 ⟨rfl, k5⟩; have HK5 := Lib.hid (HK4.out.trans k5); have HI5 := Lib.hid (HI4.out.keeps k5); clear k5) | (go_at_call 11; refine (HAW.out _ HK5.out).mono ?_; rintro _ w9 ⟨rfl, k9⟩; have HK9 := Lib.hid (HK5.out.trans k9); clear k9))
            go_ret
            exact ⟨rfl, HK9.out⟩
          · have x3 : (E2 != 0) = true := bne_iff_ne.2 x2
            clear hbad x2
            go_enter Tryd.func8, Tryd.ntmps8
            go_wp2_with (first | (go_at_call 10; (with_reducible refine (HF1.out _ (Keeps.refl _)).mono ?_); rintro _ _ ⟨rfl, rfl⟩) | (go_at_call 10; (with_reducible refine (HF2.out _ (Keeps.refl _)).mono ?_); rintro _ _ ⟨rfl, rfl⟩) | (go_at_call 12; (with_reducible refine (HL1.out _ (Keeps.refl _)).mono ?_); rintro _ w1 ⟨rfl, k1⟩; have HK1 := Lib.hid k1; clear k1) | (go_at_call 12; (with_reducible refine (HL2.out _ HK1.out).mono ?_); rintro _ w2 ⟨rfl, k2⟩; have HK2 := Lib.hid (HK1.out.trans k2); clear k2) | (at_builtin; refine wp_catD rfl _ _ rfl (OwnE.nil w2 w.heap.size) rfl rfl (HI1.out _ HK2.out) (by have := HLM.out; show 0 + l.length ≤ _; omega) (Below.size HK2.out) ?_; intro v3 w3 o3 g3; have HO3 := Lib.hid o3; have HK3 := Lib.hid (HK2.out.grown g3 (OwnE.nil (T := rowD) w2 w.heap.size).block); clear o3 g3) | (at_builtin; refine wp_catD rfl _ _ rfl HO3.out rfl rfl (HI2.out _ HK3.out) (by have := HLM.out; show ([] ++ l).length + m.length ≤ _; rw [List.nil_append]; omega) (Below.size HK3.out) ?_; intro v4 w4 o4 g4; have HK4 := Lib.hid (HK3.out.grown g4 HO3.out.block); obtain ⟨a4, c4, hv4, hi4, hc4⟩ := HL3.out w4 v4 (by rw [← HLQ.out]; exact o4); subst hv4; have HI4 := Lib.hid hi4; have HC4 := Lib.hid hc4; clear o4 g4 hi4 hc4) | (go_at_call 12; refine HC4.out.mono ?_; rintro _ w5 ⟨rfl, k5⟩; have HK5 := Lib.hid (HK4.out.trans k5); have HI5 := Lib.hid (HI4.out.keeps k5); clear k5) | (go_at_call 11; refine (HAW.out _ HK5.out).mono ?_; rintro _ w9 ⟨rfl, k9⟩; have HK9 := Lib.hid (HK5.out.trans k9); clear k9))
            go_ret
            exact ⟨rfl, HK9.out⟩
        · have x3 : (E1 != 0) = true := bne_iff_ne.2 x1
          clear hbad x1
          go_enter Tryd.func8, Tryd.ntmps8
          go_wp2_with (first | (go_at_call 10; (with_reducible refine (HF1.out _ (Keeps.refl _)).mono ?_); rintro _ _ ⟨rfl, rfl⟩) | (go_at_call 10; (with_reducible refine (HF2.out _ (Keeps.refl _)).mono ?_); rintro _ _ ⟨rfl, rfl⟩) | (go_at_call 12; (with_reducible refine (HL1.out _ (Keeps.refl _)).mono ?_); rintro _ w1 ⟨rfl, k1⟩; have HK1 := Lib.hid k1; clear k1) | (go_at_call 12; (with_reducible refine (HL2.out _ HK1.out).mono ?_); rintro _ w2 ⟨rfl, k2⟩; have HK2 := Lib.hid (HK1.out.trans k2); clear k2) | (at_builtin; refine wp_catD rfl _ _ rfl (OwnE.nil w2 w.heap.size) rfl rfl (HI1.out _ HK2.out) (by have := HLM.out; show 0 + l.length ≤ _; omega) (Below.size HK2.out) ?_; intro v3 w3 o3 g3; have HO3 := Lib.hid o3; have HK3 := Lib.hid (HK2.out.grown g3 (OwnE.nil (T := rowD) w2 w.heap.size).block); clear o3 g3) | (at_builtin; refine wp_catD rfl _ _ rfl HO3.out rfl rfl (HI2.out _ HK3.out) (by have := HLM.out; show ([] ++ l).length + m.length ≤ _; rw [List.nil_append]; omega) (Below.size HK3.out) ?_; intro v4 w4 o4 g4; have HK4 := Lib.hid (HK3.out.grown g4 HO3.out.block); obtain ⟨a4, c4, hv4, hi4, hc4⟩ := HL3.out w4 v4 (by rw [← HLQ.out]; exact o4); subst hv4; have HI4 := Lib.hid hi4; have HC4 := Lib.hid hc4; clear o4 g4 hi4 hc4) | (go_at_call 12; refine HC4.out.mono ?_; rintro _ w5 ⟨rfl, k5⟩; have HK5 := Lib.hid (HK4.out.trans k5); have HI5 := Lib.hid (HI4.out.keeps k5); clear k5) | (go_at_call 11; refine (HAW.out _ HK5.out).mono ?_; rintro _ w9 ⟨rfl, k9⟩; have HK9 := Lib.hid (HK5.out.trans k9); clear k9))
          go_ret
          exact ⟨rfl, HK9.out⟩
      · obtain rfl : E1 = 0 := Classical.not_not.1 fun h => hbad (.inl h)
        obtain rfl : E2 = 0 := Classical.not_not.1 fun h => hbad (.inr (.inl h))
        have hle : ¬ 4095 < S1.size + S2.size := fun h => hbad (.inr (.inr h))
        have hli : ¬ (4095 : Int) < (S1.size : Int) + (S2.size : Int) := by omega
        obtain ⟨g1, g2⟩ := HJG.out rfl rfl (by rw [← HZ1.out, ← HZ2.out]; exact hle)
        rw [g1] at HL3
        simp only [← HSS.out] at HL3
        obtain ⟨S3, hS3⟩ : ∃ S, S1 ++ S2 = S := ⟨_, rfl⟩
        rw [hS3] at HL3
        have hS3z : S3.size ≤ 1000000 := by rw [← hS3, ByteArray.size_append]; omega
        have HPA := Lib.hid (fun W => eparse_any S3 W hS3z)
        rw [show parse (ls S3) = (LM, 0) by rw [← hS3, HSS.out, ls_st]; exact g2] at HPA
        unfold EaPost at HPA
        have hcat : ¬ 9223372036854775807 < S1.size + S2.size := by omega
        clear hbad hle g1 g2 hS3z
        go_enter Tryd.func8, Tryd.ntmps8
        go_wp2_with (first | (go_at_call 10; (with_reducible refine (HF1.out _ (Keeps.refl _)).mono ?_); rintro _ _ ⟨rfl, rfl⟩) | (go_at_call 10; (with_reducible refine (HF2.out _ (Keeps.refl _)).mono ?_); rintro _ _ ⟨rfl, rfl⟩) | (go_at_call 12; (with_reducible refine (HL1.out _ (Keeps.refl _)).mono ?_); rintro _ w1 ⟨rfl, k1⟩; have HK1 := Lib.hid k1; clear k1) | (go_at_call 12; (with_reducible refine (HL2.out _ HK1.out).mono ?_); rintro _ w2 ⟨rfl, k2⟩; have HK2 := Lib.hid (HK1.out.trans k2); clear k2) | (at_builtin; refine wp_catD rfl _ _ rfl (OwnE.nil w2 w.heap.size) rfl rfl (HI1.out _ HK2.out) (by have := HLM.out; show 0 + l.length ≤ _; omega) (Below.size HK2.out) ?_; intro v3 w3 o3 g3; have HO3 := Lib.hid o3; have HK3 := Lib.hid (HK2.out.grown g3 (OwnE.nil (T := rowD) w2 w.heap.size).block); clear o3 g3) | (at_builtin; refine wp_catD rfl _ _ rfl HO3.out rfl rfl (HI2.out _ HK3.out) (by have := HLM.out; show ([] ++ l).length + m.length ≤ _; rw [List.nil_append]; omega) (Below.size HK3.out) ?_; intro v4 w4 o4 g4; have HK4 := Lib.hid (HK3.out.grown g4 HO3.out.block); obtain ⟨a4, c4, hv4, hi4, hc4⟩ := HL3.out w4 v4 (by rw [← HLQ.out]; exact o4); subst hv4; have HI4 := Lib.hid hi4; have HC4 := Lib.hid hc4; clear o4 g4 hi4 hc4) | (go_at_call 12; refine HC4.out.mono ?_; rintro _ w5 ⟨rfl, k5⟩; have HK5 := Lib.hid (HK4.out.trans k5); have HI5 := Lib.hid (HI4.out.keeps k5); clear k5) | (go_at_call 15; refine (HPA.out _).mono ?_; rintro _ w6 ⟨a6, c6, rfl, hi6, _, _, k6⟩; have HK6 := Lib.hid (HK5.out.trans k6); have HI6 := Lib.hid hi6; have HI7 := Lib.hid (HI5.out.keeps k6); clear hi6 k6) | (go_at_call 14; refine (dplain_any w6 HI7.out (by have := HML.out; omega)).mono ?_; rintro _ w7 ⟨a7, c7, rfl, hi7, _, _, k7⟩; have HK7 := Lib.hid (HK6.out.trans k7); have HI8 := Lib.hid (HI6.out.keeps k7); have HI9 := Lib.hid hi7; clear hi7 k7) | (go_at_call 17; refine (dsame_any w7 HI8.out HI9.out (by have := HML.out; omega)).mono ?_; rintro _ w8 ⟨rfl, k8⟩; have HK8 := Lib.hid (HK7.out.trans k8); clear k8) | (go_at_call 11; refine (HAW.out _ HK8.out).mono ?_; rintro _ w9 ⟨rfl, k9⟩; have HK9 := Lib.hid (HK8.out.trans k9); clear k9))
        go_ret
        exact ⟨rfl, HK9.out⟩
    · have hf2 : fewD m = false := by simpa using hf2
      rw [hf1] at HF1
      rw [hf2] at HF2
      clear hf1 hf2 h1 h2 b1 b2 tS
      go_enter Tryd.func8, Tryd.ntmps8
      go_wp2_with (first | (go_at_call 10; (with_reducible refine (HF1.out _ (Keeps.refl _)).mono ?_); rintro _ _ ⟨rfl, rfl⟩) | (go_at_call 10; (with_reducible refine (HF2.out _ (Keeps.refl _)).mono ?_); rintro _ _ ⟨rfl, rfl⟩) | (go_at_call 11; refine (HAW.out _ (Keeps.refl _)).mono ?_; rintro _ w9 ⟨rfl, k9⟩; have HK9 := Lib.hid k9; clear k9))
      go_ret
      exact ⟨rfl, HK9.out⟩
  · have hf1 : fewD l = false := by simpa using hf1
    rw [hf1] at HF1
    clear hf1 h1 h2 b1 b2 tS HF2
    go_enter Tryd.func8, Tryd.ntmps8
    go_wp2_with (first | (go_at_call 10; (with_reducible refine (HF1.out _ (Keeps.refl _)).mono ?_); rintro _ _ ⟨rfl, rfl⟩) | (go_at_call 11; refine (HAW.out _ (Keeps.refl _)).mono ?_; rintro _ w9 ⟨rfl, k9⟩; have HK9 := Lib.hid k9; clear k9))
    go_ret
    exact ⟨rfl, HK9.out⟩

theorem doorMet (os : Os) (args : Array Value) : laidMetH Tryd.prog [("clarion/descr.ofSlice", Rows.laid_clarion_descr_ofSlice)] ((World.doorLaid Tryd.prog 400 os).forCall (fun _ _ => 0) ⟨#[], args, []⟩).memory :=
  laidMetH_of_parts3 (fuel := 8) (laidMet_of_run' 8 (by kernel_rfl) (by kernel_rfl)) (by kernel_rfl) (by kernel_rfl)
theorem own : ownKnob Tryd.prog.godebug = none := by kernel_rfl
theorem laidOut : laidOutB Tryd.prog = true := by kernel_rfl
set_option maxRecDepth 100000 in
theorem lifted (os : Os) (started : os.Started) (H : Type) (enc : TypeId × Value → H) :
    ReturnsInHanded {} Tryd.checked os 8 .any (fun w args => (Rows.descrJoinsSpec.pre enc Tryd.prog Tryd.f8 [] false w args ∧ laidMetH Tryd.prog [("clarion/descr.ofSlice", Rows.laid_clarion_descr_ofSlice)] w) ∧ sizedMet enc Tryd.prog Tryd.f8 (OpenSpec.ofChange Rows.descrJoinsSpec) false w args) (Rows.descrJoinsSpec.post enc Tryd.prog Tryd.f8 false true false false) := by
  refine returnsInHanded_of_change_and (C := Tryd.checked) (X := fun w _ => laidMetH Tryd.prog [("clarion/descr.ofSlice", Rows.laid_clarion_descr_ofSlice)] w) (fun _ _ _ hh h => h.of_heap hh) own started (by kernel_rfl) Tryd.func8
    (ChangeSpec.witness_shaped (enc := enc) (C := Tryd.checked) (os := os) (X := fun w _ => laidMetH Tryd.prog [("clarion/descr.ofSlice", Rows.laid_clarion_descr_ofSlice)] w) false (World.doorLaid Tryd.prog 400 os) #[.slice none 0 0, .slice none 0 0] 8 rfl (World.shaped_of_RefB (by kernel_rfl) (by kernel_rfl)) (by kernel_rfl) (by kernel_rfl) (by kernel_rfl) (doorMet os _)) ?_
  intro W base args ds gs before hval0 hW hcnd _ hL _
  have hval : ∀ (j : Nat) t v, Tryd.f8.params[j]? = some t → args[j]? = some v → Value.okWide Tryd.prog W .any base t v := hval0
  have hW' := hW
  obtain ⟨p, q, hA0, hV, rfl, hfz, hnd⟩ := hW
  have hA : DataW.TrodAll enc Tryd.prog W 0 (fun _ => true) true Tryd.f8.params.toList args.toList ds p := hA0
  rw [Tryd.params8] at hA hval
  obtain ⟨v0, vs0, d0, ds0, p0, q0, hargs, rfl, rfl, h0, r0⟩ := trodAll_cons hA
  obtain ⟨v1, vs1, d1, ds1, p1, q1, rfl, rfl, rfl, h1, r1⟩ := trodAll_cons r0
  obtain ⟨rfl, rfl, rfl⟩ := trodAll_nil r1
  obtain rfl : args = #[v0, v1] := by cases args; simp_all
  obtain ⟨rfl, rfl⟩ := trodVars_none hV
  obtain ⟨a0, len0, cap0, rfl⟩ := okWide_slice Tryd.underlying22 (hval 0 22 v0 rfl rfl)
  have k0 := h0
  have lt0 : ∀ x ∈ p0, x.block < W.heap.size := by obtain ⟨m, hm⟩ := k0; exact DataW.trod_lt m _ _ _ hm
  obtain ⟨z0, w0⟩ := open_dscrow h0
  obtain ⟨a1, len1, cap1, rfl⟩ := okWide_slice Tryd.underlying22 (hval 1 22 v1 rfl rfl)
  have k1 := h1
  have lt1 : ∀ x ∈ p1, x.block < W.heap.size := by obtain ⟨m, hm⟩ := k1; exact DataW.trod_lt m _ _ _ hm
  obtain ⟨z1, w1⟩ := open_dscrow h1
  clear hA0 hval0
  refine (walk a0 len0 cap0 z0 W w0 a1 len1 cap1 z1 w1 (tS_of hL (by kernel_rfl) (by simp))).mono fun e W' ⟨he, bel⟩ => ?_
  subst he
  exact ⟨_, rfl, _, _, _, [], _, [], hW', trodAll_mk1 (shut_bool Tryd.underlying4 _), (trodAll_cons_mk (Below.trod laidOut (by kernel_rfl) (of_decide_eq_true (by kernel_rfl)) k0 bel lt0) (trodAll_cons_mk (Below.trod laidOut (by kernel_rfl) (of_decide_eq_true (by kernel_rfl)) k1 bel lt1) trodAll_mk0)), rfl, bel.frame _, fun h => by cases h⟩

theorem over : Rows.descrJoinsRow.holds Tryd.pinned (OpenSpec.ofChange Rows.descrJoinsSpec) :=
  OpenClaim.holds_of_wide 8 Tryd.f8 rfl rfl rfl rfl rfl rfl rfl ⟨rfl, rfl, rfl, rfl, rfl⟩ rfl rfl rfl rfl rfl (by kernel_rfl) Tryd.func8 (by kernel_rfl)
    (of_decide_eq_true (by kernel_rfl)) (by unfold Func.isWrapper; first | (rw [if_pos (by decide +kernel)]; kernel_rfl) | (rw [if_neg (by decide +kernel)]; exact ⟨rfl, rfl⟩))
    (fun os started H enc _ => lifted os started H enc)

set_option maxRecDepth 100000 in
theorem proved : Rows.DescrJoinsCardSaid :=
  Claim7.holds_tied_plain_at .later [] [.wider] true (true, _) false over (fun _ h => by cases h) (by kernel_rfl) (fun _ h => by cases h) descrJoins_row_tie rfl ⟨rfl, rfl⟩ (by kernel_rfl) rfl
    (fun f fn hf hfn => by
      obtain rfl : f = 8 := Option.some.inj ((show Tryd.prog.funcNamed "clarion/clarionlaw18.DescrJoins" = some 8 by kernel_rfl).symm.trans hf) |>.symm
      obtain rfl : fn = Tryd.f8 := (Option.some.inj (Tryd.func8.symm.trans hfn)).symm
      exact ⟨by kernel_rfl, fun j t ht => by
        rw [Tryd.params8] at ht
        have hm : t ∈ [22, 22] := by simpa using Array.mem_of_getElem? ht
        have hall : ([22, 22].all fun u => !Tryd.prog.wantsStandIn u) = true := by kernel_rfl
        exact (show Tryd.prog.wantsStandIn t = false by simpa using List.all_eq_true.1 hall t hm)⟩)
    (by kernel_rfl)
#print axioms proved
end Go.Proofs.YtlghkdkaifcliaaDoor.descrJoins
