/-
  What Decode answers, of package section and of the document: for texts of up to a million bytes. The memory that was there stays.
-/
import Derived.Test.YtmfldnflcmbnjaaScC
import Derived.Test.YtmfldnflcmbnjaaWord
import Derived.StillTailTactics
namespace Go.Proofs.Ytmfldnflcmbnjaa
open Go.RowKit Gf Sct Bit
set_option maxRecDepth 100000
/-- The section that is answered lies in block b, and is nothing yet. -/
structure Ans (w0 : World) (b : Nat) (W : World) : Prop where
  z : SecAt b zs W
  k : Keeps w0 W
  m : w0.heap.size ≤ b
section
variable {w0 W W' : World} {b : Nat}
theorem Ans.keeps (h : Ans w0 b W) (k : Keeps W W') : Ans w0 b W' := ⟨h.z.keeps k, h.k.trans k, h.m⟩
theorem Ans.eqv (h : Ans w0 b W) (k : Eqv W W') : Ans w0 b W' := ⟨h.z.eqv k, h.k.eqv k, h.m⟩
theorem Ans.alloc (h : Ans w0 b W) (o : Obj) : Ans w0 b (W.alloc o) := h.keeps ((Keeps.refl W).alloc o)
theorem Ans.ends (h : Ans w0 b W) (t : Sec) : SecAt b t (W.setCells b 0 (secC t)) ∧ Keeps w0 (W.setCells b 0 (secC t)) := ⟨h.z.store t, (only_setCells b (secC t) 0 W).keeps h.k h.m⟩
end
theorem Ans.start {w0 w wA : World} (hk : Keeps w0 w) {b : Nat} {T : TypeId} (hb : w.heap.size = b) (hA : w.alloc (.cells #[.int .i64 0, .bool false, .int .i64 0, .int .i64 0, .bool false, .int .i64 0, .int .i64 0, .string ⟨#[]⟩] T) = wA) : Ans w0 b wA := by
  subst hb
  subst hA
  exact ⟨SecAt.made w zs T, hk.alloc _, Below.size hk⟩
set_option maxHeartbeats 6400000 in
theorem scdec_any (w0 : World) (s : ByteArray) (w : World) (hs : s.size ≤ 1000000) (hk : Keeps w0 w) :
    Calls Try.prog 18 #[.string s] w (RdPost w0 (dec (ls s))) := by
  obtain ⟨b, hbw⟩ : ∃ b, w.heap.size = b := ⟨_, rfl⟩
  obtain ⟨wA, hA⟩ : ∃ wA, w.alloc (.cells #[.int .i64 0, .bool false, .int .i64 0, .int .i64 0, .bool false, .int .i64 0, .int .i64 0, .string ⟨#[]⟩] 23) = wA := ⟨_, rfl⟩
  have A0 := Lib.hid (Ans.start hk hbw hA)
  have HNE := Lib.hid (scneed_any wA s wA hs (Keeps.refl wA))
  unfold NeedPost at HNE
  obtain ⟨⟨n, r⟩, hn⟩ : ∃ q, need (ls s) = q := ⟨_, rfl⟩
  rw [hn] at HNE
  clear hk
  by_cases hr : r = 0
  · subst hr
    by_cases h1 : (s.size : Int) < n
    · have HD := Lib.hid (dec_short (l := ls s) (by rw [hn]) (by rw [hn, ← ls_size]; exact h1))
      clear hn
      go_enter Try.func18, Try.ntmps18
      go_wp2_with (first | (go_at_call 16; refine HNE.out.mono ?_; rintro _ w1 ⟨rfl, k1⟩; have A1 := Lib.hid (A0.out.keeps k1); clear k1 A0) | (refine wpList_store_mid rfl 23 _ _ rfl b 0 (secC zs).toArray rfl rfl A1.out.z.there (by kernel_rfl) (all_oneCell_toArray (secC_one zs)) ?_))
      have E := A1.out.ends zs
      exact sec_ret Try.results18 (lvS E.1) rfl rfl rfl (RdPost.of HD.out E.2)
    · by_cases h2 : n < (s.size : Int)
      · have HD := Lib.hid (dec_long (l := ls s) (by rw [hn]) (by rw [hn, ← ls_size]; exact h2))
        clear hn
        go_enter Try.func18, Try.ntmps18
        go_wp2_with (first | (go_at_call 16; refine HNE.out.mono ?_; rintro _ w1 ⟨rfl, k1⟩; have A1 := Lib.hid (A0.out.keeps k1); clear k1 A0) | (refine wpList_store_mid rfl 23 _ _ rfl b 0 (secC zs).toArray rfl rfl A1.out.z.there (by kernel_rfl) (all_oneCell_toArray (secC_one zs)) ?_))
        have E := A1.out.ends zs
        exact sec_ret Try.results18 (lvS E.1) rfl rfl rfl (RdPost.of HD.out E.2)
      · have he : n = (s.size : Int) := by omega
        subst he
        have HOP := Lib.hid (fun W => open_any W s W hs (Keeps.refl W))
        unfold OpnPost at HOP
        obtain ⟨⟨m, q⟩, hq⟩ : ∃ q, opn (ls s) = q := ⟨_, rfl⟩
        simp only [hq] at HOP
        by_cases hq0 : q = 0
        · subst hq0
          have HD := Lib.hid (show dec (ls s) = rd m by rw [dec_rd (by rw [hn]) (by rw [hn, ← ls_size]) (by rw [hq]), hq])
          obtain ⟨o1, o2, o3, _⟩ := opn_length (l := ls s) (by rw [hn]) (by rw [hn, ← ls_size]) (by rw [hq])
          rw [hq] at o2 o3
          simp only at o2 o3
          have HRD := Lib.hid (fun W => scread_any W (st m) W (by rw [st_size]; omega) (by rw [st_size]; exact o2) (Keeps.refl W))
          unfold RdPost at HRD
          simp only [ls_st] at HRD
          obtain ⟨⟨S, e⟩, hS⟩ : ∃ q, rd m = q := ⟨_, rfl⟩
          rw [hS] at HD
          simp only [hS] at HRD
          obtain ⟨U, hU⟩ : ∃ U, st m = U := ⟨_, rfl⟩
          simp only [hU] at HRD HOP
          clear hn hq o1 o2 o3 hS hU
          go_enter Try.func18, Try.ntmps18
          go_wp2_with (first | (go_at_call 16; refine HNE.out.mono ?_; rintro _ w1 ⟨rfl, k1⟩; have A1 := Lib.hid (A0.out.keeps k1); clear k1 A0) | (go_at_call 34; refine (HOP.out _).mono ?_; rintro _ w2 ⟨rfl, k2⟩; have A2 := Lib.hid (A1.out.keeps k2); clear k2 A1) | (go_at_call 35; refine (HRD.out _).mono ?_; rintro _ w3 ⟨rfl, k3⟩; have A3 := Lib.hid (A2.out.keeps k3); clear k3 A2) | (refine wpList_store_mid rfl 23 _ _ rfl b 0 (secC S).toArray rfl rfl A3.out.z.there (by kernel_rfl) (all_oneCell_toArray (secC_one S)) ?_))
          have E := A3.out.ends S
          exact sec_ret Try.results18 (lvS E.1) rfl rfl rfl (RdPost.of HD.out E.2)
        · have HD := Lib.hid (show dec (ls s) = (zs, q) by rw [dec_sum (by rw [hn]) (by rw [hn, ← ls_size]) (by rw [hq]; exact hq0), hq])
          have hqb : (q != 0) = true := by simpa using hq0
          clear hn hq
          go_enter Try.func18, Try.ntmps18
          go_wp2_with (first | (go_at_call 16; refine HNE.out.mono ?_; rintro _ w1 ⟨rfl, k1⟩; have A1 := Lib.hid (A0.out.keeps k1); clear k1 A0) | (go_at_call 34; refine (HOP.out _).mono ?_; rintro _ w2 ⟨rfl, k2⟩; have A2 := Lib.hid (A1.out.keeps k2); clear k2 A1) | (refine wpList_store_mid rfl 23 _ _ rfl b 0 (secC zs).toArray rfl rfl A2.out.z.there (by kernel_rfl) (all_oneCell_toArray (secC_one zs)) ?_))
          have E := A2.out.ends zs
          exact sec_ret Try.results18 (lvS E.1) rfl rfl rfl (RdPost.of HD.out E.2)
  · have HD := Lib.hid (show dec (ls s) = (zs, r) by rw [dec_need (by rw [hn]; exact hr), hn])
    have hrb : (r != 0) = true := by simpa using hr
    clear hn
    go_enter Try.func18, Try.ntmps18
    go_wp2_with (first | (go_at_call 16; refine HNE.out.mono ?_; rintro _ w1 ⟨rfl, k1⟩; have A1 := Lib.hid (A0.out.keeps k1); clear k1 A0) | (refine wpList_store_mid rfl 23 _ _ rfl b 0 (secC zs).toArray rfl rfl A1.out.z.there (by kernel_rfl) (all_oneCell_toArray (secC_one zs)) ?_))
    have E := A1.out.ends zs
    exact sec_ret Try.results18 (lvS E.1) rfl rfl rfl (RdPost.of HD.out E.2)
/-- The document's section of opened bytes, by the numbers of its bytes. -/
theorem sc_nums {m : List UInt8} {x0 x1 x3 x4 x5 x6 x7 : UInt8} {B : ByteArray} (e0 : cf m 0 = x0) (e1 : cf m 1 = x1) (e3 : cf m 3 = x3) (e4 : cf m 4 = x4) (e5 : cf m 5 = x5) (e6 : cf m 6 = x6) (e7 : cf m 7 = x7) (eB : st (m.drop 8) = B) :
    sc m = ⟨(x0.toNat : Int), (x1.toNat : Int) / 64 % 2 == 1, (x3.toNat : Int) * 256 + (x4.toNat : Int), (x5.toNat : Int) / 2 % 32, (x5.toNat : Int) % 2 == 1, (x6.toNat : Int), (x7.toNat : Int), B⟩ := by
  have d : ∀ n : Nat, decide (n = 1) = ((n : Int) == 1) := by
    intro n
    by_cases h : n = 1
    · subst h; decide
    · rw [decide_eq_false h]; symm; simp; omega
  subst e0 e1 e3 e4 e5 e6 e7 eB
  unfold sc
  rw [d, d]
  unfold c
  simp
set_option maxHeartbeats 6400000 in
theorem scrdec_any (w0 : World) (s : ByteArray) (w : World) (hs : s.size ≤ 1000000) (hk : Keeps w0 w) :
    Calls Try.prog 19 #[.string s] w (RdPost w0 (dec (ls s))) := by
  obtain ⟨b, hbw⟩ : ∃ b, w.heap.size = b := ⟨_, rfl⟩
  obtain ⟨wA, hA⟩ : ∃ wA, w.alloc (.cells #[.int .i64 0, .bool false, .int .i64 0, .int .i64 0, .bool false, .int .i64 0, .int .i64 0, .string ⟨#[]⟩] 28) = wA := ⟨_, rfl⟩
  have A0 := Lib.hid (Ans.start hk hbw hA)
  have HNE := Lib.hid (scrneed_any wA s wA hs (Keeps.refl wA))
  unfold NeedPost at HNE
  obtain ⟨⟨n, r⟩, hn⟩ : ∃ q, need (ls s) = q := ⟨_, rfl⟩
  rw [hn] at HNE
  clear hk
  by_cases hr : r = 0
  · subst hr
    by_cases h1 : (s.size : Int) < n
    · have HD := Lib.hid (dec_short (l := ls s) (by rw [hn]) (by rw [hn, ← ls_size]; exact h1))
      clear hn
      go_enter Try.func19, Try.ntmps19
      go_wp2_with (first | (go_at_call 17; refine HNE.out.mono ?_; rintro _ w1 ⟨rfl, k1⟩; have A1 := Lib.hid (A0.out.keeps k1); clear k1 A0) | (refine wpList_store_mid rfl 28 _ _ rfl b 0 (secC zs).toArray rfl rfl A1.out.z.there (by kernel_rfl) (all_oneCell_toArray (secC_one zs)) ?_))
      have E := A1.out.ends zs
      exact sec_ret Try.results19 (lvR E.1) rfl rfl rfl (RdPost.of HD.out E.2)
    · by_cases h2 : n < (s.size : Int)
      · have HD := Lib.hid (dec_long (l := ls s) (by rw [hn]) (by rw [hn, ← ls_size]; exact h2))
        clear hn
        go_enter Try.func19, Try.ntmps19
        go_wp2_with (first | (go_at_call 17; refine HNE.out.mono ?_; rintro _ w1 ⟨rfl, k1⟩; have A1 := Lib.hid (A0.out.keeps k1); clear k1 A0) | (refine wpList_store_mid rfl 28 _ _ rfl b 0 (secC zs).toArray rfl rfl A1.out.z.there (by kernel_rfl) (all_oneCell_toArray (secC_one zs)) ?_))
        have E := A1.out.ends zs
        exact sec_ret Try.results19 (lvR E.1) rfl rfl rfl (RdPost.of HD.out E.2)
      · have he : n = (s.size : Int) := by omega
        subst he
        have HOP := Lib.hid (fun W => ropen_any W s W hs (Keeps.refl W))
        unfold OpnPost at HOP
        obtain ⟨⟨m, q⟩, hq⟩ : ∃ q, opn (ls s) = q := ⟨_, rfl⟩
        simp only [hq] at HOP
        by_cases hq0 : q = 0
        · subst hq0
          have HD := Lib.hid (show dec (ls s) = rd m by rw [dec_rd (by rw [hn]) (by rw [hn, ← ls_size]) (by rw [hq]), hq])
          obtain ⟨o1, o2, o3, _⟩ := opn_length (l := ls s) (by rw [hn]) (by rw [hn, ← ls_size]) (by rw [hq])
          rw [hq] at o2 o3
          simp only at o2 o3
          obtain ⟨U, hU⟩ : ∃ U, st m = U := ⟨_, rfl⟩
          have hUm : ls U = m := by rw [← hU, ls_st]
          have hUz : U.size = m.length := by rw [← hU, st_size]
          simp only [hU] at HOP
          obtain ⟨x0, e0⟩ : ∃ x, cf m 0 = x := ⟨_, rfl⟩
          obtain ⟨x1, e1⟩ : ∃ x, cf m 1 = x := ⟨_, rfl⟩
          obtain ⟨x3, e3⟩ : ∃ x, cf m 3 = x := ⟨_, rfl⟩
          obtain ⟨x4, e4⟩ : ∃ x, cf m 4 = x := ⟨_, rfl⟩
          obtain ⟨x5, e5⟩ : ∃ x, cf m 5 = x := ⟨_, rfl⟩
          obtain ⟨x6, e6⟩ : ∃ x, cf m 6 = x := ⟨_, rfl⟩
          obtain ⟨x7, e7⟩ : ∃ x, cf m 7 = x := ⟨_, rfl⟩
          obtain ⟨B, eB⟩ : ∃ B, st (m.drop 8) = B := ⟨_, rfl⟩
          have HE := Lib.hid (sc_nums e0 e1 e3 e4 e5 e6 e7 eB)
          have z0 : 0 < U.size := by omega
          have z1 : 1 < U.size := by omega
          have z3 : 3 < U.size := by omega
          have z4 : 4 < U.size := by omega
          have z5 : 5 < U.size := by omega
          have z6 : 6 < U.size := by omega
          have z7 : 7 < U.size := by omega
          have g0 : U[0] = x0 := by rw [ls_get U 0 z0, hUm, e0]
          have g1 : U[1] = x1 := by rw [ls_get U 1 z1, hUm, e1]
          have g3 : U[3] = x3 := by rw [ls_get U 3 z3, hUm, e3]
          have g4 : U[4] = x4 := by rw [ls_get U 4 z4, hUm, e4]
          have g5 : U[5] = x5 := by rw [ls_get U 5 z5, hUm, e5]
          have g6 : U[6] = x6 := by rw [ls_get U 6 z6, hUm, e6]
          have g7 : U[7] = x7 := by rw [ls_get U 7 z7, hUm, e7]
          have gB : U.extract 8 U.size = B := by
            rw [← eB, ← st_ls (U.extract 8 U.size), ls_part, hUm]; congr 1; exact List.take_of_length_le (by rw [List.length_drop]; omega)
          have HN := Lib.hid (show ¬ ((x5.toNat : Int) / 64 = 3 ∧ (x6.toNat : Int) ≤ (x7.toNat : Int)) → dec (ls s) = (zs, 12) from fun h => HD.out.trans (rd_no (by unfold c; rw [e5, e6, e7]; intro k; exact h ⟨by omega, by omega⟩)))
          have HY := Lib.hid (show ((x5.toNat : Int) / 64 = 3 ∧ (x6.toNat : Int) ≤ (x7.toNat : Int)) → dec (ls s) = (sc m, 0) from fun h => HD.out.trans (rd_ok (by unfold c; rw [e5, e6, e7]; exact ⟨by omega, by omega⟩)))
          have y3 := u8_bd x3
          have y4 := u8_bd x4
          have y5 := u8_bd x5
          have y1 := u8_bd x1
          have i8 : (8 : Int) ≤ (U.size : Int) := by omega
          have wr1 := wrapI (a := (x3.toNat : Int) * 256) (by omega) (by omega)
          have wr2 := wrapI (a := (x3.toNat : Int) * 256 + (x4.toNat : Int)) (by omega) (by omega)
          clear hn hq o1 o2 o3 hU hUm hUz e0 e1 e3 e4 e5 e6 e7 eB HD
          go_enter Try.func19, Try.ntmps19
          go_wp2_with (first | (go_at_call 17; refine HNE.out.mono ?_; rintro _ w1 ⟨rfl, k1⟩; have A1 := Lib.hid (A0.out.keeps k1); clear k1 A0) | (go_at_call 36; refine (HOP.out _).mono ?_; rintro _ w2 ⟨rfl, k2⟩; have A2 := Lib.hid (A1.out.keeps k2); clear k2 A1))
          have i1 : (1 : Int) < (U.size : Int) := by omega
          have i3 : (3 : Int) < (U.size : Int) := by omega
          have i4 : (4 : Int) < (U.size : Int) := by omega
          have i6 : (6 : Int) < (U.size : Int) := by omega
          have i7 : (7 : Int) < (U.size : Int) := by omega
          have wr0 : ∀ x : UInt8, IntKind.i64.wrap (x.toNat : Int) = (x.toNat : Int) := fun x => wrapI (by have := u8_bd x; omega) (by have := u8_bd x; omega)
          have td1 : (x1.toNat : Int).tdiv 64 = (x1.toNat : Int) / 64 := Int.tdiv_eq_ediv_of_nonneg (by omega)
          have td2 : ((x1.toNat : Int) / 64).tmod 2 = (x1.toNat : Int) / 64 % 2 := Int.tmod_eq_emod_of_nonneg (by omega)
          have td3 : (x5.toNat : Int).tdiv 2 = (x5.toNat : Int) / 2 := Int.tdiv_eq_ediv_of_nonneg (by omega)
          have td4 : ((x5.toNat : Int) / 2).tmod 32 = (x5.toNat : Int) / 2 % 32 := Int.tmod_eq_emod_of_nonneg (by omega)
          have td5 : (x5.toNat : Int).tmod 2 = (x5.toNat : Int) % 2 := Int.tmod_eq_emod_of_nonneg (by omega)
          have wr3 := wrapI (a := (x1.toNat : Int) / 64) (by omega) (by omega)
          have wr4 := wrapI (a := (x5.toNat : Int) / 2) (by omega) (by omega)
          obtain ⟨X, hX⟩ : ∃ X : Obj, X = .cells #[.int .i64 0, .bool false, .int .i64 0, .int .i64 0, .bool false, .int .i64 0, .int .i64 0, .string ⟨#[]⟩] 28 := ⟨_, rfl⟩
          have HXX := Lib.hid hX
          clear hX
          refine wp_draw_tail 33 (by kernel_rfl)
            [.string U, .int .u8 (x0.toNat : Int), .int .i64 ((x0.toNat : Int)), .string U, .int .u8 (x1.toNat : Int), .int .i64 ((x1.toNat : Int)), .int .i64 ((x1.toNat : Int) / 64), .int .i64 ((x1.toNat : Int) / 64 % 2), .bool ((x1.toNat : Int) / 64 % 2 == 1), .string U, .int .u8 (x3.toNat : Int), .int .i64 ((x3.toNat : Int)), .int .i64 ((x3.toNat : Int) * 256), .string U, .int .u8 (x4.toNat : Int), .int .i64 ((x4.toNat : Int)), .int .i64 ((x3.toNat : Int) * 256 + (x4.toNat : Int)), .int .i64 ((x5.toNat : Int)), .int .i64 ((x5.toNat : Int) / 2), .int .i64 ((x5.toNat : Int) / 2 % 32), .int .i64 ((x5.toNat : Int)), .int .i64 ((x5.toNat : Int) % 2), .bool ((x5.toNat : Int) % 2 == 1), .string U, .int .u8 (x6.toNat : Int), .int .i64 ((x6.toNat : Int)), .string U, .int .u8 (x7.toNat : Int), .int .i64 ((x7.toNat : Int)), .string U, .string B, secV ⟨(x0.toNat : Int), (x1.toNat : Int) / 64 % 2 == 1, (x3.toNat : Int) * 256 + (x4.toNat : Int), (x5.toNat : Int) / 2 % 32, (x5.toNat : Int) % 2 == 1, (x6.toNat : Int), (x7.toNat : Int), B⟩, .pointer (some ⟨w2.heap.size, 0, none⟩)]
            (Once 32 (Eqv w2) (Eqv (w2.alloc X)))
            rfl (by kernel_rfl) (by kernel_rfl) (fin := ?fin) ?hfin (Once.start (Eqv.drew w2)) ?each ?hend
          case hfin => simp [seqA, dstOf, Act.put]; rfl
          case each =>
            refine ⟨?_, ?_, ?_, ?_, ?_, ?_, ?_, ?_, ?_, ?_, ?_, ?_, ?_, ?_, ?_, ?_, ?_, ?_, ?_, ?_, ?_, ?_, ?_, ?_, ?_, ?_, ?_, ?_, ?_, ?_, ?_, ?_, ?_, trivial⟩
            all_goals intro L w5 h0 hd hs hw
            all_goals unfold Does
            all_goals try simp only [Nat.zero_add, Nat.reduceAdd] at h0
            rotate_left 32
            · have hA := hw.1 h0
              have hz := hA.size
              go_simp
              exact fun L' k => Once.done k (by rw [HXX.out]; exact hA.alloc _)
            all_goals (go_simp; exact fun L' k => hw.same (by decide) k)
          case hend =>
          intro L w5 hL hw
          obtain ⟨w3, rfl, he⟩ := (hw.2 (hL 32 (by omega))).split
          clear hL hw
          rw [HXX.out, ← he.size]
          simp only [List.drop_succ_cons, List.drop_zero]
          have A3 := Lib.hid (A2.out.eqv he)
          clear he
          have A4 := Lib.hid (A3.out.alloc (.cells (secC ⟨(x0.toNat : Int), (x1.toNat : Int) / 64 % 2 == 1, (x3.toNat : Int) * 256 + (x4.toNat : Int), (x5.toNat : Int) / 2 % 32, (x5.toNat : Int) % 2 == 1, (x6.toNat : Int), (x7.toNat : Int), B⟩).toArray 28))
          by_cases q5 : (x5.toNat : Int) / 64 = 3
          · by_cases q6 : (x6.toNat : Int) ≤ (x7.toNat : Int)
            · replace HY := Lib.hid (HY.out ⟨q5, q6⟩)
              clear HN
              go_wp2_with (refine wpList_store_mid rfl 28 _ _ rfl b 0 (secC ⟨(x0.toNat : Int), (x1.toNat : Int) / 64 % 2 == 1, (x3.toNat : Int) * 256 + (x4.toNat : Int), (x5.toNat : Int) / 2 % 32, (x5.toNat : Int) % 2 == 1, (x6.toNat : Int), (x7.toNat : Int), B⟩).toArray rfl rfl (A3.out.alloc _).z.there (by kernel_rfl) (all_oneCell_toArray (secC_one _)) ?_)
              have E := A4.out.ends ⟨(x0.toNat : Int), (x1.toNat : Int) / 64 % 2 == 1, (x3.toNat : Int) * 256 + (x4.toNat : Int), (x5.toNat : Int) / 2 % 32, (x5.toNat : Int) % 2 == 1, (x6.toNat : Int), (x7.toNat : Int), B⟩
              exact sec_ret Try.results19 (lvR E.1) rfl rfl rfl (RdPost.of (by rw [HY.out, HE.out]) E.2)
            · replace HN := Lib.hid (HN.out fun h => q6 h.2)
              clear HY
              go_wp2_with (refine wpList_store_mid rfl 28 _ _ rfl b 0 (secC zs).toArray rfl rfl (A3.out.alloc _).z.there (by kernel_rfl) (all_oneCell_toArray (secC_one _)) ?_)
              have E := A4.out.ends zs
              exact sec_ret Try.results19 (lvR E.1) rfl rfl rfl (RdPost.of HN.out E.2)
          · replace HN := Lib.hid (HN.out fun h => q5 h.1)
            clear HY
            go_wp2_with (refine wpList_store_mid rfl 28 _ _ rfl b 0 (secC zs).toArray rfl rfl (A3.out.alloc _).z.there (by kernel_rfl) (all_oneCell_toArray (secC_one _)) ?_)
            have E := A4.out.ends zs
            exact sec_ret Try.results19 (lvR E.1) rfl rfl rfl (RdPost.of HN.out E.2)
        · have HD := Lib.hid (show dec (ls s) = (zs, q) by rw [dec_sum (by rw [hn]) (by rw [hn, ← ls_size]) (by rw [hq]; exact hq0), hq])
          have hqb : (q != 0) = true := by simpa using hq0
          clear hn hq
          go_enter Try.func19, Try.ntmps19
          go_wp2_with (first | (go_at_call 17; refine HNE.out.mono ?_; rintro _ w1 ⟨rfl, k1⟩; have A1 := Lib.hid (A0.out.keeps k1); clear k1 A0) | (go_at_call 36; refine (HOP.out _).mono ?_; rintro _ w2 ⟨rfl, k2⟩; have A2 := Lib.hid (A1.out.keeps k2); clear k2 A1) | (refine wpList_store_mid rfl 28 _ _ rfl b 0 (secC zs).toArray rfl rfl A2.out.z.there (by kernel_rfl) (all_oneCell_toArray (secC_one zs)) ?_))
          have E := A2.out.ends zs
          exact sec_ret Try.results19 (lvR E.1) rfl rfl rfl (RdPost.of HD.out E.2)
  · have HD := Lib.hid (show dec (ls s) = (zs, r) by rw [dec_need (by rw [hn]; exact hr), hn])
    have hrb : (r != 0) = true := by simpa using hr
    clear hn
    go_enter Try.func19, Try.ntmps19
    go_wp2_with (first | (go_at_call 17; refine HNE.out.mono ?_; rintro _ w1 ⟨rfl, k1⟩; have A1 := Lib.hid (A0.out.keeps k1); clear k1 A0) | (refine wpList_store_mid rfl 28 _ _ rfl b 0 (secC zs).toArray rfl rfl A1.out.z.there (by kernel_rfl) (all_oneCell_toArray (secC_one zs)) ?_))
    have E := A1.out.ends zs
    exact sec_ret Try.results19 (lvR E.1) rfl rfl rfl (RdPost.of HD.out E.2)
end Go.Proofs.Ytmfldnflcmbnjaa
