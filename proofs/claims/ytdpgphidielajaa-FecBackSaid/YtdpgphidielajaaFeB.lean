/-
  What fixed and Decode of package fec answer. The memory that was there stays.
-/
import Derived.Test.YtdpgphidielajaaFeA
namespace Go.Proofs.Ytdpgphidielajaa
open Go.RowKit Gf Tm Sct Mpe Fec
set_option maxRecDepth 100000
/-- Two arrays of four ints are compared. -/
theorem run_eq4 (d : Nat) (a0 a1 a2 a3 b0 b1 b2 b3 : Int) (w : World) : (Op.equalIn (d + 1 + 1) 61 (.agg #[.int .i64 a0, .int .i64 a1, .int .i64 a2, .int .i64 a3]) (.agg #[.int .i64 b0, .int .i64 b1, .int .i64 b2, .int .i64 b3])).run Try.prog w = .ok (a0 == b0 && a1 == b1 && a2 == b2 && a3 == b3) w := by
  have u := Try.underlying61
  have u1 := Try.underlying3
  have a1' := Try.isAgg3
  rw [show d + 1 + 1 = (d + 1) + 1 from rfl]
  unfold Op.equalIn
  simp only [Sem.run_bind, run_underlying u, Result.andThen_ok]
  go_simp
  rw [show List.range' 0 4 = [0, 1, 2, 3] from rfl]
  by_cases e0 : a0 = b0 <;> by_cases e1 : a1 = b1 <;> by_cases e2 : a2 = b2 <;> by_cases e3 : a3 = b3 <;> (simp only [List.forIn_cons, List.forIn_nil, Sem.run_bind]; go_simp; try simp [e0, e1, e2, e3])
theorem ne4 (a0 a1 a2 a3 b0 b1 b2 b3 : Int) (w : World) : (binOp .neq 61 (.agg #[.int .i64 a0, .int .i64 a1, .int .i64 a2, .int .i64 a3]) (.agg #[.int .i64 b0, .int .i64 b1, .int .i64 b2, .int .i64 b3])).run Try.prog w = .ok (.bool !(a0 == b0 && a1 == b1 && a2 == b2 && a3 == b3)) w := by rw [run_neq_struct, show (10000 : Nat) = 9998 + 1 + 1 from rfl, run_eq4]; rfl
theorem eg4 : Try.prog.eqGuardType Try.prog.depth 61 = false := by kernel_rfl
theorem lv4 {w : World} {b : Nat} {x0 x1 x2 x3 : Int} (h : w.rangeAt b 0 [.int .i64 x0, .int .i64 x1, .int .i64 x2, .int .i64 x3]) : (loadVar 61 ⟨b, 0, none⟩).run Try.prog w = .ok (.agg #[.int .i64 x0, .int .i64 x1, .int .i64 x2, .int .i64 x3]) w := run_loadVar_mid (P := Try.prog) w b 0 _ [.int .i64 x0, .int .i64 x1, .int .i64 x2, .int .i64 x3] _ h Try.underlying61 rfl (by kernel_rfl)
theorem wp_st4 {ops : Array Oper} {rest : List Oper} {o : Oper} {a : Act} {w : World} {Q : Exit → Act → World → Prop} {b off : Nat} (x0 x1 x2 x3 : Int) (h : w.there b off 4) (hgd : o.guard = none) (x y : Operand) (ho : o.op = .store 61 x y)
    (hx : a.eval x = .pointer (some ⟨b, off, none⟩)) (hy : a.eval y = .agg #[.int .i64 x0, .int .i64 x1, .int .i64 x2, .int .i64 x3]) (k : wpList Try.prog ops Q rest (a.put o.dst undef) (w.setCells b off [.int .i64 x0, .int .i64 x1, .int .i64 x2, .int .i64 x3])) : wpList Try.prog ops Q (o :: rest) a w :=
  wpList_store_mid hgd _ x y ho b off #[.int .i64 x0, .int .i64 x1, .int .i64 x2, .int .i64 x3] hx hy h (by kernel_rfl) (by simp [Value.oneCell']) k
set_option maxHeartbeats 1600000 in
theorem fefixed_any (S : Sec) (w : World) (hx : 0 ≤ S.ex ∧ S.ex ≤ 65535) : Calls Try.prog 29 #[secV S] w fun e w' => e = .returned (.agg #[.int .i64 S.ver, .int .i64 (bn S.nw : Int), .int .i64 (bn S.pv : Int), .int .i64 (S.ex % 256)]) ∧ Keeps w w' := by
  obtain ⟨b, hb⟩ : ∃ b, w.heap.size = b := ⟨_, rfl⟩
  obtain ⟨wA, hA⟩ : ∃ wA, w.alloc (.cells #[.int .i64 S.tb, .bool S.pv, .int .i64 S.ex, .int .i64 S.ver, .bool S.nw, .int .i64 S.num, .int .i64 S.la, .string S.body] 52) = wA := ⟨_, rfl⟩
  have HS := Lib.hid (show SecAt b S wA by rw [← hb, ← hA]; exact SecAt.made w S _)
  have HK := Lib.hid (show Keeps w wA by rw [← hA]; exact (Keeps.refl w).alloc _)
  have hm : S.ex % 256 = bits .and .i64 S.ex 255 := (i64_mask 8 (by omega) (by omega) (by decide) (by decide)).symm
  obtain ⟨tb, pv, ex, ver, nw, num, la, B⟩ := S
  simp only at hx hm
  rw [hm]
  clear hm
  obtain ⟨xm, hxm⟩ : ∃ x, bits .and .i64 ex 255 = x := ⟨_, rfl⟩
  rw [hxm]
  go_enter Try.func29, Try.ntmps29
  go_wp2
  have A1 := Lib.hid (CsAns.start HK.out (b := wA.heap.size) (T := 61) (a := #[.int .i64 0, .int .i64 0, .int .i64 0, .int .i64 0]) (by simp) rfl rfl)
  have HS1 := Lib.hid (HS.out.keeps ((Keeps.refl wA).alloc (.cells #[.int .i64 0, .int .i64 0, .int .i64 0, .int .i64 0] 61)))
  refine wp_draw_tail 12 (by kernel_rfl)
    [.pointer (some ⟨b, 3, none⟩), .int .i64 ver, .pointer (some ⟨b, 4, none⟩), .bool nw, .int .i64 (bn nw : Int), .pointer (some ⟨b, 1, none⟩), .bool pv, .int .i64 (bn pv : Int), .pointer (some ⟨b, 2, none⟩), .int .i64 ex, .int .i64 xm, .agg #[.int .i64 ver, .int .i64 (bn nw : Int), .int .i64 (bn pv : Int), .int .i64 xm]]
    (fun _ W => Eqv (wA.alloc (.cells #[.int .i64 0, .int .i64 0, .int .i64 0, .int .i64 0] 61)) W)
    rfl (by kernel_rfl) (by kernel_rfl) (fin := ?fin) ?hfin (Eqv.drew _) ?each ?hend
  case hfin => simp [seqA, dstOf, Act.put]; rfl
  case each =>
    refine ⟨?_, ?_, ?_, ?_, ?_, ?_, ?_, ?_, ?_, ?_, ?_, ?_, trivial⟩
    all_goals intro L w5 h0 hd hs hw
    all_goals unfold Does
    all_goals obtain ⟨q0, q1, q2, q3, q4, q5, q6, q7, _⟩ := HS1.out.eqv hw
    all_goals simp only at q0 q1 q2 q3 q4 q5 q6 q7
    all_goals go_simp
    all_goals first
      | exact fun L' k => hw
      | (refine (febit_any _ _).mono ?_; rintro e w6 ⟨rfl, rfl⟩; exact ⟨_, rfl, rfl, fun L' k => hw⟩)
  case hend =>
  intro L w5 hL hw
  simp only [List.drop_succ_cons, List.drop_zero]
  have A5 := Lib.hid (A1.out.eqv hw)
  clear hL hw
  go_wp2_with (first | (refine wp_st4 (b := wA.heap.size) (off := 0) ver (bn nw : Int) (bn pv : Int) xm (A5.out.z.there (by decide)) rfl _ _ rfl rfl rfl ?_))
  have E := A5.out.ends [.int .i64 ver, .int .i64 (bn nw : Int), .int .i64 (bn pv : Int), .int .i64 xm] rfl
  exact cs_ret Try.results29 (lv4 E.z.r) rfl rfl ⟨rfl, E.k⟩
def FdcPost (w0 : World) (r : Fpt × Int) (e : Ending) (w' : World) : Prop := e = .returned (.tuple #[feV r.1, .int .i64 r.2]) ∧ Keeps w0 w'
theorem FdcPost.of {w0 W : World} {r : Fpt × Int} {p : Fpt} {n : Int} (e : r = (p, n)) (k : Keeps w0 W) : FdcPost w0 r (.returned (.tuple #[feV p, .int .i64 n])) W := by rw [e]; exact ⟨rfl, k⟩
abbrev zfB : Array Value := #[.int .i64 0, .int .i64 0, .int .i64 0, .int .i64 0, .bool false, .bool false, .int .i64 0, .string ⟨#[]⟩]
theorem once_keepsB {w1 w5 : World} {X : Obj} {n : Nat} {L : Nat → Bool} (hw : Once n (Eqv w1) (Eqv (w1.alloc X)) L w5) : Keeps w1 w5 := by
  cases e : L n with
  | false => exact (Keeps.refl w1).eqv (hw.1 e)
  | true => exact ((Keeps.refl w1).alloc X).eqv (hw.2 e)
theorem bn_eq (b : Bool) : ((bn b : Int) == 1) = b := by cases b <;> rfl
theorem good4 (S : Sec) : (S.ver == 31 && (bn S.nw : Int) == 1 && (bn S.pv : Int) == 1 && S.ex % 256 == 255) = decide (goodF S) := by
  rw [bn_eq, bn_eq]
  unfold goodF
  by_cases h1 : S.ver = 31 <;> by_cases h4 : S.ex % 256 = 255 <;> by_cases h2 : S.nw = true <;> by_cases h3 : S.pv = true <;> simp [h1, h2, h3, h4]
set_option maxHeartbeats 6400000 in
theorem fedecode_any (w0 : World) (s : ByteArray) (w : World) (hs : s.size ≤ 1000000) (hk : Keeps w0 w) : Calls Try.prog 16 #[.string s] w (FdcPost w0 (dcF (ls s))) := by
  obtain ⟨b, hbw⟩ : ∃ b, w.heap.size = b := ⟨_, rfl⟩
  obtain ⟨wA, hA⟩ : ∃ wA, w.alloc (.cells #[.int .i64 0, .int .i64 0, .int .i64 0, .int .i64 0, .bool false, .bool false, .int .i64 0, .string ⟨#[]⟩] 25) = wA := ⟨_, rfl⟩
  have A0 := Lib.hid (CsAns.start hk (a := zfB) (by simp) hbw hA)
  have HD := Lib.hid (scdec_any wA s wA hs (Keeps.refl wA))
  unfold RdPost at HD
  have HC := Lib.hid (fun p n W => FdcPost.of (w0 := w0) (r := dcF (ls s)) (p := p) (n := n) (W := W))
  obtain ⟨⟨S, e⟩, hd⟩ : ∃ q, dec (ls s) = q := ⟨_, rfl⟩
  simp only [hd] at HD
  clear hk
  by_cases he : e = 0
  · subst he
    have hrd : dcF (ls s) = rdF S := by rw [dcF_rd (by rw [hd]), hd]
    have hb := bytes_dec (l := ls s) (by rw [hd])
    rw [hd] at hb
    simp only at hb
    have hbz : S.body.size ≤ 1000000 := by
      have h1 := bytes_length S
      rw [hb.2, ← ls_size] at h1
      omega
    obtain ⟨⟨_, _, x1, x2, _⟩, _⟩ := chk_fit hb.1
    have HS := Lib.hid (fun W => SecAt.made W S 52)
    by_cases h1 : S.tb = 120
    · have HF1 := Lib.hid (fun W => fefixed_any S W ⟨x1, x2⟩)
      have HCZ := Lib.hid (fun W => show Calls Try.prog 22 #[feV zf, .string ⟨#[]⟩] W fun e w' => e = .returned (secV ⟨120, true, 255, 31, true, 0, 0, ⟨#[]⟩⟩) ∧ Keeps W w' from fecarrier_any zf ⟨#[]⟩ W ⟨by decide, by decide⟩)
      have HF2 := Lib.hid (fun W => show Calls Try.prog 29 #[secV ⟨120, true, 255, 31, true, 0, 0, ⟨#[]⟩⟩] W fun e w' => e = .returned (.agg #[.int .i64 31, .int .i64 1, .int .i64 1, .int .i64 255]) ∧ Keeps W w' from fefixed_any ⟨120, true, 255, 31, true, 0, 0, ⟨#[]⟩⟩ W ⟨by decide, by decide⟩)
      have HNE := Lib.hid (fun W => ne4 S.ver (bn S.nw : Int) (bn S.pv : Int) (S.ex % 256) 31 1 1 255 W)
      rw [good4] at HNE
      obtain ⟨XA, hXA⟩ : ∃ X : Array Value, #[.int .i64 S.ver, .int .i64 (bn S.nw : Int), .int .i64 (bn S.pv : Int), .int .i64 (S.ex % 256)] = X := ⟨_, rfl⟩
      obtain ⟨YA, hYA⟩ : ∃ Y : Array Value, #[.int .i64 31, .int .i64 1, .int .i64 1, .int .i64 255] = Y := ⟨_, rfl⟩
      rw [hXA, hYA] at HNE
      rw [hXA] at HF1
      rw [hYA] at HF2
      clear hXA hYA
      unfold zf zt at HCZ
      by_cases h2 : goodF S
      · rw [decide_eq_true h2] at HNE
        obtain ⟨tb, pv, ex, ver, nw, num, la, B⟩ := S
        obtain ⟨g1, g2, g3, g4⟩ := id h2
        simp only at h1 g1 g2 g3 g4 x1 x2 hbz
        subst h1 g1 g2 g3
        by_cases h3 : B.size < 4
        · have HE := Lib.hid (hrd.trans (rdF_short rfl h2 h3))
          have h3i : (B.size : Int) < 4 := by omega
          clear hb hd hrd h2 hbz h3 g4 x1 x2
          go_enter Try.func16, Try.ntmps16
          go_wp2_with (first | (go_at_call 28; refine HD.out.mono ?_; rintro _ w2 ⟨rfl, k2⟩; have HA3 := Lib.hid (HS.out w2); have A3 := Lib.hid ((A0.out.keeps k2).alloc (.cells #[.int .i64 120, .bool true, .int .i64 ex, .int .i64 31, .bool true, .int .i64 num, .int .i64 la, .string B] 52)); clear k2) | (go_at_call 29; (with_reducible refine (HF1.out _).mono ?_); rintro _ w4 ⟨rfl, k4⟩; have HA4 := Lib.hid (HA3.out.keeps k4); have A4 := Lib.hid (A3.out.keeps k4); clear k4) | (go_at_call 22; refine (HCZ.out _).mono ?_; rintro _ w5 ⟨rfl, k5⟩; have HA5 := Lib.hid (HA4.out.keeps k5); have A5 := Lib.hid (A4.out.keeps k5); clear k5) | (go_at_call 29; (with_reducible refine (HF2.out _).mono ?_); rintro _ w6 ⟨rfl, k6⟩; have HA6 := Lib.hid (HA5.out.keeps k6); have A6 := Lib.hid (A5.out.keeps k6); have q7 := HA6.out.c7; simp only at q7; clear k6) | (refine wp_cmp (HNE.out _) eg4 rfl _ _ rfl rfl rfl ?_) | (refine wp_stF (b := b) (off := 0) zf (A6.out.z.there (by decide)) rfl _ _ rfl rfl rfl ?_))
          have E := A6.out.ends (feC zf) rfl
          exact cs_ret2 Try.results16 (lvF E.z.r) rfl rfl rfl (HC.out _ _ _ HE.out E.k)
        · have HTD := Lib.hid (fun W => tmdecode_any W (B.extract 0 4) W (Keeps.refl W))
          unfold DcPost at HTD
          have e4 : ls (B.extract 0 4) = (ls B).take 4 := by rw [ls_part, List.drop_zero]
          have l4 : 4 ≤ (ls B).length := by rw [← ls_size]; omega
          rw [dcT_ok (by rw [e4, List.length_take]; omega), e4, n4_take _ l4] at HTD
          have e5 : ls (B.extract 4 B.size) = (ls B).drop 4 := by rw [ls_part, List.take_of_length_le (by rw [List.length_drop, ← ls_size]; exact Nat.le_refl _)]
          have h3i : ¬ (B.size : Int) < 4 := by omega
          have h3j : (4 : Int) ≤ (B.size : Int) := by omega
          obtain ⟨x, hx⟩ : ∃ x, ofN (n4 (ls B)) = x := ⟨_, rfl⟩
          rw [hx] at HTD
          obtain ⟨T, hT⟩ : ∃ T, B.extract 4 B.size = T := ⟨_, rfl⟩
          rw [hT] at e5
          have hTz : T.size ≤ 1000000000 := by rw [ls_size, e5, List.length_drop, ← ls_size]; omega
          obtain ⟨pd, ep⟩ : ∃ x, ex / 256 = x := ⟨_, rfl⟩
          have HP := Lib.hid (show fOf ⟨120, true, ex, 31, true, num, la, B⟩ = ⟨pd, num, la, x, T⟩ from fpt_ext ep rfl rfl hx (by show ls (st _) = ls T; rw [ls_st, e5]))
          have HG := Lib.hid (fun W => fecheck_any W ⟨pd, num, la, x, T⟩ W hTz (Keeps.refl W))
          unfold FckPost at HG
          have wrp := wrapI (a := pd) (by omega) (by omega)
          have hsh : ex / 2 ^ 8 = pd := ep
          have i0 : (0 : Int) ≤ ex := x1
          by_cases h5 : ckF (fOf ⟨120, true, ex, 31, true, num, la, B⟩) = 0
          · have HE := Lib.hid (hrd.trans (rdF_ok rfl h2 h3 h5))
            rw [HP.out] at HE h5
            rw [h5] at HG
            clear hb hd hrd h2 h3 h5 g4 e4 l4 e5 hx hTz HP
            obtain ⟨x0, x1, x2, x3⟩ := x
            go_enter Try.func16, Try.ntmps16
            go_wp2_with (first | (go_at_call 28; refine HD.out.mono ?_; rintro _ w2 ⟨rfl, k2⟩; have HA3 := Lib.hid (HS.out w2); have A3 := Lib.hid ((A0.out.keeps k2).alloc (.cells #[.int .i64 120, .bool true, .int .i64 ex, .int .i64 31, .bool true, .int .i64 num, .int .i64 la, .string B] 52)); clear k2) | (go_at_call 29; (with_reducible refine (HF1.out _).mono ?_); rintro _ w4 ⟨rfl, k4⟩; have HA4 := Lib.hid (HA3.out.keeps k4); have A4 := Lib.hid (A3.out.keeps k4); clear k4) | (go_at_call 22; refine (HCZ.out _).mono ?_; rintro _ w5 ⟨rfl, k5⟩; have HA5 := Lib.hid (HA4.out.keeps k5); have A5 := Lib.hid (A4.out.keeps k5); clear k5) | (go_at_call 29; (with_reducible refine (HF2.out _).mono ?_); rintro _ w6 ⟨rfl, k6⟩; have HA6 := Lib.hid (HA5.out.keeps k6); have A6 := Lib.hid (A5.out.keeps k6); have q7 := HA6.out.c7; simp only at q7; clear k6) | (refine wp_cmp (HNE.out _) eg4 rfl _ _ rfl rfl rfl ?_) | (go_at_call 30; refine (HTD.out _).mono ?_; rintro _ w7 ⟨rfl, k7⟩; have HA7 := Lib.hid ((HA6.out.keeps k7).keeps ((Keeps.refl w7).alloc (.cells #[.int .i64 x0, .bool x1, .bool x2, .int .i64 x3] 23))); have A7 := Lib.hid ((A6.out.keeps k7).alloc (.cells #[.int .i64 x0, .bool x1, .bool x2, .int .i64 x3] 23)); have HT7 := Lib.hid (TmAt.made w7 ⟨x0, x1, x2, x3⟩ 23); clear k7))
            obtain ⟨X, hX⟩ : ∃ X : Obj, X = .cells #[.int .i64 0, .int .i64 0, .int .i64 0, .int .i64 0, .bool false, .bool false, .int .i64 0, .string ⟨#[]⟩] 25 := ⟨_, rfl⟩
            have HXX := Lib.hid hX
            clear hX
            refine wp_draw_tail 13 (by kernel_rfl) [.pointer (some ⟨w2.heap.size, 2, none⟩), .int .i64 ex, .int .i64 pd, .pointer (some ⟨w2.heap.size, 5, none⟩), .int .i64 num, .pointer (some ⟨w2.heap.size, 6, none⟩), .int .i64 la, tmV ⟨x0, x1, x2, x3⟩, .pointer (some ⟨w2.heap.size, 7, none⟩), .string B, .string T, feV ⟨pd, num, la, ⟨x0, x1, x2, x3⟩, T⟩, .pointer (some ⟨w7.heap.size + 1, 0, none⟩)]
              (Once 12 (Eqv (w7.alloc (.cells #[.int .i64 x0, .bool x1, .bool x2, .int .i64 x3] 23))) (Eqv ((w7.alloc (.cells #[.int .i64 x0, .bool x1, .bool x2, .int .i64 x3] 23)).alloc X))) rfl (by kernel_rfl) (by kernel_rfl) (fin := ?fin1) ?hfin1 (Once.start (Eqv.drew _)) ?each1 ?hend1
            case hfin1 => simp [seqA, dstOf, Act.put]; rfl
            case each1 =>
              refine ⟨?_, ?_, ?_, ?_, ?_, ?_, ?_, ?_, ?_, ?_, ?_, ?_, ?_, trivial⟩
              all_goals intro L w8 h0 hd hs hw
              all_goals unfold Does
              all_goals try simp only [Nat.zero_add, Nat.reduceAdd] at h0
              rotate_left 12
              · have hA := hw.1 h0
                have hz : w8.heap.size = w7.heap.size + 1 := by rw [hA.size, World.size_alloc]
                go_simp
                exact fun L' k => Once.done k (by rw [HXX.out]; exact hA.alloc _)
              all_goals obtain ⟨q0, q1, q2, q3, q4, q5, q6, q7', _⟩ := HA7.out.keeps (once_keepsB hw)
              all_goals obtain ⟨t0, t1, t2, t3, _⟩ := HT7.out.keeps (once_keepsB hw)
              all_goals simp only at q0 q1 q2 q3 q4 q5 q6 q7' t0 t1 t2 t3
              all_goals (go_simp; exact fun L' k => hw.same (by decide) k)
            case hend1 =>
            intro L w8 hL hw
            obtain ⟨w3, rfl, he⟩ := (hw.2 (hL 12 (by omega))).split
            clear hL hw
            have hz3 : w7.heap.size + 1 = w3.heap.size := by rw [he.size, World.size_alloc]
            rw [HXX.out, hz3]
            simp only [List.drop_succ_cons, List.drop_zero]
            have A8 := Lib.hid ((A7.out.eqv he).alloc (.cells #[.int .i64 pd, .int .i64 num, .int .i64 la, .int .i64 x0, .bool x1, .bool x2, .int .i64 x3, .string T] 25))
            have HP8 := Lib.hid (show CsAt w3.heap.size (feC ⟨pd, num, la, ⟨x0, x1, x2, x3⟩, T⟩) (w3.alloc (.cells #[.int .i64 pd, .int .i64 num, .int .i64 la, .int .i64 x0, .bool x1, .bool x2, .int .i64 x3, .string T] 25)) from CsAt.made w3 #[.int .i64 pd, .int .i64 num, .int .i64 la, .int .i64 x0, .bool x1, .bool x2, .int .i64 x3, .string T] _ (by simp))
            clear he hz3
            go_wp2_with (first | (go_at_call 12; refine (HG.out _).mono ?_; rintro _ w9 ⟨rfl, k9⟩; have A9 := Lib.hid (A8.out.keeps k9); have HP9 := Lib.hid (HP8.out.keeps k9); clear k9) | (refine wp_ldF (b := w3.heap.size) (off := 0) HP8.out.r rfl _ rfl rfl ?_) | (refine wp_ldF (b := w3.heap.size) (off := 0) HP9.out.r rfl _ rfl rfl ?_) | (refine wp_stF (b := b) (off := 0) ⟨pd, num, la, ⟨x0, x1, x2, x3⟩, T⟩ (A9.out.z.there (by decide)) rfl _ _ rfl rfl rfl ?_))
            have E := A9.out.ends (feC ⟨pd, num, la, ⟨x0, x1, x2, x3⟩, T⟩) rfl
            exact cs_ret2 Try.results16 (lvF E.z.r) rfl rfl rfl (HC.out _ _ _ HE.out E.k)
          · have HE := Lib.hid (hrd.trans (rdF_bad rfl h2 h3 h5))
            rw [HP.out] at HE h5
            obtain ⟨n, hn⟩ : ∃ n, ckF ⟨pd, num, la, x, T⟩ = n := ⟨_, rfl⟩
            rw [hn] at HE h5
            simp only [hn] at HG
            have h5b : (n != 0) = true := by simpa using h5
            clear hb hd hrd h2 h3 h5 g4 e4 l4 e5 hx hTz HP hn
            obtain ⟨x0, x1, x2, x3⟩ := x
            go_enter Try.func16, Try.ntmps16
            go_wp2_with (first | (go_at_call 28; refine HD.out.mono ?_; rintro _ w2 ⟨rfl, k2⟩; have HA3 := Lib.hid (HS.out w2); have A3 := Lib.hid ((A0.out.keeps k2).alloc (.cells #[.int .i64 120, .bool true, .int .i64 ex, .int .i64 31, .bool true, .int .i64 num, .int .i64 la, .string B] 52)); clear k2) | (go_at_call 29; (with_reducible refine (HF1.out _).mono ?_); rintro _ w4 ⟨rfl, k4⟩; have HA4 := Lib.hid (HA3.out.keeps k4); have A4 := Lib.hid (A3.out.keeps k4); clear k4) | (go_at_call 22; refine (HCZ.out _).mono ?_; rintro _ w5 ⟨rfl, k5⟩; have HA5 := Lib.hid (HA4.out.keeps k5); have A5 := Lib.hid (A4.out.keeps k5); clear k5) | (go_at_call 29; (with_reducible refine (HF2.out _).mono ?_); rintro _ w6 ⟨rfl, k6⟩; have HA6 := Lib.hid (HA5.out.keeps k6); have A6 := Lib.hid (A5.out.keeps k6); have q7 := HA6.out.c7; simp only at q7; clear k6) | (refine wp_cmp (HNE.out _) eg4 rfl _ _ rfl rfl rfl ?_) | (go_at_call 30; refine (HTD.out _).mono ?_; rintro _ w7 ⟨rfl, k7⟩; have HA7 := Lib.hid ((HA6.out.keeps k7).keeps ((Keeps.refl w7).alloc (.cells #[.int .i64 x0, .bool x1, .bool x2, .int .i64 x3] 23))); have A7 := Lib.hid ((A6.out.keeps k7).alloc (.cells #[.int .i64 x0, .bool x1, .bool x2, .int .i64 x3] 23)); have HT7 := Lib.hid (TmAt.made w7 ⟨x0, x1, x2, x3⟩ 23); clear k7))
            obtain ⟨X, hX⟩ : ∃ X : Obj, X = .cells #[.int .i64 0, .int .i64 0, .int .i64 0, .int .i64 0, .bool false, .bool false, .int .i64 0, .string ⟨#[]⟩] 25 := ⟨_, rfl⟩
            have HXX := Lib.hid hX
            clear hX
            refine wp_draw_tail 13 (by kernel_rfl) [.pointer (some ⟨w2.heap.size, 2, none⟩), .int .i64 ex, .int .i64 pd, .pointer (some ⟨w2.heap.size, 5, none⟩), .int .i64 num, .pointer (some ⟨w2.heap.size, 6, none⟩), .int .i64 la, tmV ⟨x0, x1, x2, x3⟩, .pointer (some ⟨w2.heap.size, 7, none⟩), .string B, .string T, feV ⟨pd, num, la, ⟨x0, x1, x2, x3⟩, T⟩, .pointer (some ⟨w7.heap.size + 1, 0, none⟩)]
              (Once 12 (Eqv (w7.alloc (.cells #[.int .i64 x0, .bool x1, .bool x2, .int .i64 x3] 23))) (Eqv ((w7.alloc (.cells #[.int .i64 x0, .bool x1, .bool x2, .int .i64 x3] 23)).alloc X))) rfl (by kernel_rfl) (by kernel_rfl) (fin := ?fin2) ?hfin2 (Once.start (Eqv.drew _)) ?each2 ?hend2
            case hfin2 => simp [seqA, dstOf, Act.put]; rfl
            case each2 =>
              refine ⟨?_, ?_, ?_, ?_, ?_, ?_, ?_, ?_, ?_, ?_, ?_, ?_, ?_, trivial⟩
              all_goals intro L w8 h0 hd hs hw
              all_goals unfold Does
              all_goals try simp only [Nat.zero_add, Nat.reduceAdd] at h0
              rotate_left 12
              · have hA := hw.1 h0
                have hz : w8.heap.size = w7.heap.size + 1 := by rw [hA.size, World.size_alloc]
                go_simp
                exact fun L' k => Once.done k (by rw [HXX.out]; exact hA.alloc _)
              all_goals obtain ⟨q0, q1, q2, q3, q4, q5, q6, q7', _⟩ := HA7.out.keeps (once_keepsB hw)
              all_goals obtain ⟨t0, t1, t2, t3, _⟩ := HT7.out.keeps (once_keepsB hw)
              all_goals simp only at q0 q1 q2 q3 q4 q5 q6 q7' t0 t1 t2 t3
              all_goals (go_simp; exact fun L' k => hw.same (by decide) k)
            case hend2 =>
            intro L w8 hL hw
            obtain ⟨w3, rfl, he⟩ := (hw.2 (hL 12 (by omega))).split
            clear hL hw
            have hz3 : w7.heap.size + 1 = w3.heap.size := by rw [he.size, World.size_alloc]
            rw [HXX.out, hz3]
            simp only [List.drop_succ_cons, List.drop_zero]
            have A8 := Lib.hid ((A7.out.eqv he).alloc (.cells #[.int .i64 pd, .int .i64 num, .int .i64 la, .int .i64 x0, .bool x1, .bool x2, .int .i64 x3, .string T] 25))
            have HP8 := Lib.hid (show CsAt w3.heap.size (feC ⟨pd, num, la, ⟨x0, x1, x2, x3⟩, T⟩) (w3.alloc (.cells #[.int .i64 pd, .int .i64 num, .int .i64 la, .int .i64 x0, .bool x1, .bool x2, .int .i64 x3, .string T] 25)) from CsAt.made w3 #[.int .i64 pd, .int .i64 num, .int .i64 la, .int .i64 x0, .bool x1, .bool x2, .int .i64 x3, .string T] _ (by simp))
            clear he hz3
            go_wp2_with (first | (go_at_call 12; refine (HG.out _).mono ?_; rintro _ w9 ⟨rfl, k9⟩; have A9 := Lib.hid (A8.out.keeps k9); have HP9 := Lib.hid (HP8.out.keeps k9); clear k9) | (refine wp_ldF (b := w3.heap.size) (off := 0) HP8.out.r rfl _ rfl rfl ?_) | (refine wp_ldF (b := w3.heap.size) (off := 0) HP9.out.r rfl _ rfl rfl ?_) | (refine wp_stF (b := b) (off := 0) zf (A9.out.z.there (by decide)) rfl _ _ rfl rfl rfl ?_))
            have E := A9.out.ends (feC zf) rfl
            exact cs_ret2 Try.results16 (lvF E.z.r) rfl rfl rfl (HC.out _ _ _ HE.out E.k)
      · have HE := Lib.hid (hrd.trans (rdF_form h1 h2))
        rw [decide_eq_false h2] at HNE
        clear hb hd hrd h2 hbz
        obtain ⟨tb, pv, ex, ver, nw, num, la, B⟩ := S
        simp only at h1 HS HF1
        subst h1
        go_enter Try.func16, Try.ntmps16
        go_wp2_with (first | (go_at_call 28; refine HD.out.mono ?_; rintro _ w2 ⟨rfl, k2⟩; have HA3 := Lib.hid (HS.out w2); have A3 := Lib.hid ((A0.out.keeps k2).alloc (.cells #[.int .i64 120, .bool pv, .int .i64 ex, .int .i64 ver, .bool nw, .int .i64 num, .int .i64 la, .string B] 52)); clear k2) | (go_at_call 29; (with_reducible refine (HF1.out _).mono ?_); rintro _ w4 ⟨rfl, k4⟩; have HA4 := Lib.hid (HA3.out.keeps k4); have A4 := Lib.hid (A3.out.keeps k4); clear k4) | (go_at_call 22; refine (HCZ.out _).mono ?_; rintro _ w5 ⟨rfl, k5⟩; have HA5 := Lib.hid (HA4.out.keeps k5); have A5 := Lib.hid (A4.out.keeps k5); clear k5) | (go_at_call 29; (with_reducible refine (HF2.out _).mono ?_); rintro _ w6 ⟨rfl, k6⟩; have HA6 := Lib.hid (HA5.out.keeps k6); have A6 := Lib.hid (A5.out.keeps k6); have q7 := HA6.out.c7; simp only at q7; clear k6) | (refine wp_cmp (HNE.out _) eg4 rfl _ _ rfl rfl rfl ?_) | (refine wp_stF (b := b) (off := 0) zf (A6.out.z.there (by decide)) rfl _ _ rfl rfl rfl ?_))
        have E := A6.out.ends (feC zf) rfl
        exact cs_ret2 Try.results16 (lvF E.z.r) rfl rfl rfl (HC.out _ _ _ HE.out E.k)
    · have HE := Lib.hid (hrd.trans (rdF_kind h1))
      have htb : (S.tb != 120) = true := by simpa using h1
      obtain ⟨tb, pv, ex, ver, nw, num, la, B⟩ := S
      simp only at htb
      clear hb hd hrd h1 HS hbz x1 x2
      go_enter Try.func16, Try.ntmps16
      go_wp2_with (first | (go_at_call 28; refine HD.out.mono ?_; rintro _ w2 ⟨rfl, k2⟩; have A3 := Lib.hid ((A0.out.keeps k2).alloc (.cells #[.int .i64 tb, .bool pv, .int .i64 ex, .int .i64 ver, .bool nw, .int .i64 num, .int .i64 la, .string B] 52)); clear k2) | (refine wp_stF (b := b) (off := 0) zf (A3.out.z.there (by decide)) rfl _ _ rfl rfl rfl ?_))
      have E := A3.out.ends (feC zf) rfl
      exact cs_ret2 Try.results16 (lvF E.z.r) rfl rfl rfl (HC.out _ _ _ HE.out E.k)
  · have HE := Lib.hid (show dcF (ls s) = (zf, e) by rw [dcF_bad (by rw [hd]; exact he), hd])
    have hrb : (e != 0) = true := by simpa using he
    obtain ⟨tb, pv, ex, ver, nw, num, la, B⟩ := S
    clear hd
    go_enter Try.func16, Try.ntmps16
    go_wp2_with (first | (go_at_call 28; refine HD.out.mono ?_; rintro _ w2 ⟨rfl, k2⟩; have A3 := Lib.hid ((A0.out.keeps k2).alloc (.cells #[.int .i64 tb, .bool pv, .int .i64 ex, .int .i64 ver, .bool nw, .int .i64 num, .int .i64 la, .string B] 52)); clear k2) | (refine wp_stF (b := b) (off := 0) zf (A3.out.z.there (by decide)) rfl _ _ rfl rfl rfl ?_))
    have E := A3.out.ends (feC zf) rfl
    exact cs_ret2 Try.results16 (lvF E.z.r) rfl rfl rfl (HC.out _ _ _ HE.out E.k)
end Go.Proofs.Ytdpgphidielajaa
