/-
  What the document's Decode of a column's part answers. The memory that was there stays.
-/
import Derived.Test.YtdpgphidielajaaFeD
namespace Go.Proofs.Ytdpgphidielajaa
open Go.RowKit Gf Tm Sct Mpe Fec
set_option maxRecDepth 100000
def RfdPost (w0 : World) (r : Fpt × Int) (e : Ending) (w' : World) : Prop := e = .returned (.tuple #[feV r.1, .int .i64 r.2]) ∧ Keeps w0 w'
theorem RfdPost.of {w0 W : World} {r : Fpt × Int} {p : Fpt} {n : Int} (e : r = (p, n)) (k : Keeps w0 W) : RfdPost w0 r (.returned (.tuple #[feV p, .int .i64 n])) W := by rw [e]; exact ⟨rfl, k⟩
abbrev zfA : Array Value := #[.int .i64 0, .int .i64 0, .int .i64 0, .int .i64 0, .bool false, .bool false, .int .i64 0, .string ⟨#[]⟩]
/-- The times of four bytes, as the document reads them. -/
theorem ofN_fourF {l r : List UInt8} {a b c d : UInt8} (hl : l = a :: b :: c :: d :: r) {A D C E h16 dt D8 D82 D4 D42 r4 ad : Int} (eA : (a.toNat : Int) = A) (eD : (b.toNat : Int) = D) (eC : (c.toNat : Int) = C) (eE : (d.toNat : Int) = E)
    (e1 : D / 16 = h16) (e2 : 16 * A + h16 = dt) (e3 : D / 8 = D8) (e4 : D8 % 2 = D82) (e5 : D / 4 = D4) (e6 : D4 % 2 = D42) (e7 : D % 4 = r4) (e8 : r4 * 65536 + 256 * C + E = ad) : ofN (n4 l) = ⟨dt, D82 == 1, D42 == 1, ad⟩ := by
  have ha := a.toNat_lt
  have hb := b.toNat_lt
  have hc := c.toNat_lt
  have hd := d.toNat_lt
  have e : (n4 l : Int) = ((A * 256 + D) * 256 + C) * 256 + E := by
    subst hl
    have : n4 (a :: b :: c :: d :: r) = ((a.toNat * 256 + b.toNat) * 256 + c.toNat) * 256 + d.toNat := rfl
    omega
  exact ofN_int (N := ((A * 256 + D) * 256 + C) * 256 + E) e.symm (by omega) (by omega) (by omega) (by omega)
theorem once_secF {w1 w5 : World} {X : Obj} {n : Nat} {L : Nat → Bool} {b : Nat} {s : Sec} (hw : Once n (Eqv w1) (Eqv (w1.alloc X)) L w5) (h : SecAt b s w1) : SecAt b s w5 := by
  cases e : L n with
  | false => exact h.eqv (hw.1 e)
  | true => exact (h.keeps ((Keeps.refl w1).alloc X)).eqv (hw.2 e)
set_option maxHeartbeats 6400000 in
theorem rfedecode_any (w0 : World) (s : ByteArray) (w : World) (hs : s.size ≤ 1000000) (hk : Keeps w0 w) : Calls Try.prog 17 #[.string s] w (RfdPost w0 (dcF (ls s))) := by
  obtain ⟨b, hbw⟩ : ∃ b, w.heap.size = b := ⟨_, rfl⟩
  obtain ⟨wA, hA⟩ : ∃ wA, w.alloc (.cells #[.int .i64 0, .int .i64 0, .int .i64 0, .int .i64 0, .bool false, .bool false, .int .i64 0, .string ⟨#[]⟩] 29) = wA := ⟨_, rfl⟩
  have A0 := Lib.hid (CsAns.start hk (a := zfA) (by simp) hbw hA)
  have HD := Lib.hid (scrdec_any wA s wA hs (Keeps.refl wA))
  unfold RdPost at HD
  have HC := Lib.hid (fun p n W => RfdPost.of (w0 := w0) (r := dcF (ls s)) (p := p) (n := n) (W := W))
  obtain ⟨⟨S, e⟩, hd⟩ : ∃ q, dec (ls s) = q := ⟨_, rfl⟩
  simp only [hd] at HD
  clear hk
  by_cases he : e = 0
  · subst he
    have hrd : dcF (ls s) = rdF S := by rw [dcF_rd (by rw [hd]), hd]
    have hb := bytes_dec (l := ls s) (by rw [hd])
    rw [hd] at hb
    simp only at hb
    have hbz : S.body.size ≤ 1000000 := by
      have h1 := bytes_length S
      rw [hb.2, ← ls_size] at h1
      omega
    obtain ⟨⟨_, _, x1, x2, _⟩, _⟩ := chk_fit hb.1
    by_cases h1 : S.tb = 120
    · by_cases h2 : goodF S
      · obtain ⟨tb, pv, ex, ver, nw, num, la, B⟩ := S
        obtain ⟨g1, g2, g3, g4⟩ := id h2
        simp only at h1 g1 g2 g3 g4 x1 x2
        subst h1 g1 g2 g3
        have gm : ex.tmod 256 = 255 := by rw [Int.tmod_eq_emod_of_nonneg x1, g4]
        by_cases h3 : B.size < 4
        · have HE := Lib.hid (hrd.trans (rdF_short rfl h2 h3))
          have h3i : (B.size : Int) < 4 := by omega
          clear hb hd hrd h2 hbz h3 g4 x1 x2
          go_enter Try.func17, Try.ntmps17
          go_wp2_with (first | (go_at_call 31; refine HD.out.mono ?_; rintro _ w2 ⟨rfl, k2⟩; have A2 := Lib.hid ((A0.out.keeps k2).alloc (.cells #[.int .i64 120, .bool true, .int .i64 ex, .int .i64 31, .bool true, .int .i64 num, .int .i64 la, .string B] 66)); clear k2) | (refine wp_stG (b := b) (off := 0) zf (A2.out.z.there (by decide)) rfl _ _ rfl rfl rfl ?_))
          have E := A2.out.ends (feC zf) rfl
          exact cs_ret2 Try.results17 (lvG E.z.r) rfl rfl rfl (HC.out _ _ _ HE.out E.k)
        · have h4 : 4 ≤ (ls B).length := by rw [← ls_size]; omega
          obtain ⟨a, b', c, d, r, hl⟩ : ∃ a b c d r, ls B = a :: b :: c :: d :: r := by
            match h : ls B, h4 with
            | a :: b :: c :: d :: r, _ => exact ⟨a, b, c, d, r, rfl⟩
          have z0 : 0 < B.size := by omega
          have z1 : 1 < B.size := by omega
          have z2 : 2 < B.size := by omega
          have z3 : 3 < B.size := by omega
          have v0 : B[0] = a := by rw [ls_get B 0 z0, hl]; rfl
          have v1 : B[1] = b' := by rw [ls_get B 1 z1, hl]; rfl
          have v2 : B[2] = c := by rw [ls_get B 2 z2, hl]; rfl
          have v3 : B[3] = d := by rw [ls_get B 3 z3, hl]; rfl
          have y0 := u8_bd a
          have y1 := u8_bd b'
          have y2 := u8_bd c
          have y3 := u8_bd d
          obtain ⟨A, eA⟩ : ∃ x, (a.toNat : Int) = x := ⟨_, rfl⟩
          obtain ⟨D, eD⟩ : ∃ x, (b'.toNat : Int) = x := ⟨_, rfl⟩
          obtain ⟨C, eC⟩ : ∃ x, (c.toNat : Int) = x := ⟨_, rfl⟩
          obtain ⟨E, eE⟩ : ∃ x, (d.toNat : Int) = x := ⟨_, rfl⟩
          obtain ⟨h16, e1⟩ : ∃ x, D / 16 = x := ⟨_, rfl⟩
          obtain ⟨A16, eA16⟩ : ∃ x, 16 * A = x := ⟨_, rfl⟩
          obtain ⟨dt, e2⟩ : ∃ x, A16 + h16 = x := ⟨_, rfl⟩
          obtain ⟨D8, e3⟩ : ∃ x, D / 8 = x := ⟨_, rfl⟩
          obtain ⟨D82, e4⟩ : ∃ x, D8 % 2 = x := ⟨_, rfl⟩
          obtain ⟨D4, e5⟩ : ∃ x, D / 4 = x := ⟨_, rfl⟩
          obtain ⟨D42, e6⟩ : ∃ x, D4 % 2 = x := ⟨_, rfl⟩
          obtain ⟨r4, e7⟩ : ∃ x, D % 4 = x := ⟨_, rfl⟩
          obtain ⟨r4x, e8⟩ : ∃ x, r4 * 65536 = x := ⟨_, rfl⟩
          obtain ⟨yy, e9⟩ : ∃ x, 256 * C = x := ⟨_, rfl⟩
          obtain ⟨zz, e10⟩ : ∃ x, r4x + yy = x := ⟨_, rfl⟩
          obtain ⟨ad, e11⟩ : ∃ x, zz + E = x := ⟨_, rfl⟩
          have HX := Lib.hid (ofN_fourF hl eA eD eC eE e1 (dt := dt) (by omega) e3 e4 e5 e6 e7 (ad := ad) (by omega))
          rw [eA] at y0
          rw [eD] at y1
          rw [eC] at y2
          rw [eE] at y3
          obtain ⟨t1, et1⟩ : ∃ x, (D82 == 1) = x := ⟨_, rfl⟩
          obtain ⟨t2, et2⟩ : ∃ x, (D42 == 1) = x := ⟨_, rfl⟩
          rw [et1, et2] at HX
          have e5' : ls (B.extract 4 B.size) = (ls B).drop 4 := by rw [ls_part, List.take_of_length_le (by rw [List.length_drop, ← ls_size]; exact Nat.le_refl _)]
          have h3i : ¬ (B.size : Int) < 4 := by omega
          obtain ⟨T, hT⟩ : ∃ T, B.extract 4 B.size = T := ⟨_, rfl⟩
          obtain ⟨pd, ep⟩ : ∃ x, ex / 256 = x := ⟨_, rfl⟩
          have tdp : ex.tdiv 256 = pd := by rw [Int.tdiv_eq_ediv_of_nonneg x1, ep]
          have wrp := wrapI (a := pd) (by omega) (by omega)
          have HP := Lib.hid (show fOf ⟨120, true, ex, 31, true, num, la, B⟩ = ⟨pd, num, la, ⟨dt, t1, t2, ad⟩, T⟩ from fpt_ext ep rfl rfl HX.out (by show ls (st _) = ls T; rw [ls_st, ← e5', hT]))
          have HG := Lib.hid (fun W => rfecheck_any W ⟨pd, num, la, ⟨dt, t1, t2, ad⟩, T⟩ W (Keeps.refl W))
          unfold RfkPost at HG
          by_cases h5 : ckF (fOf ⟨120, true, ex, 31, true, num, la, B⟩) = 0
          · have HE := Lib.hid (hrd.trans (rdF_ok rfl h2 h3 h5))
            rw [HP.out] at HE h5
            rw [h5] at HG
            clear hb hd hrd h2 hl h4 h3 h5 HX HP e5'
            have HS := Lib.hid (fun W => SecAt.made W ⟨120, true, ex, 31, true, num, la, B⟩ 66)
            have wr0 := wrapI (a := A16) (by omega) (by omega)
            have wr1 := wrapI (a := h16) (by omega) (by omega)
            have wr2 := wrapI (a := dt) (by omega) (by omega)
            have wr3 := wrapI (a := D8) (by omega) (by omega)
            have wr4 := wrapI (a := D4) (by omega) (by omega)
            have wr5 := wrapI (a := r4x) (by omega) (by omega)
            have wr6 := wrapI (a := yy) (by omega) (by omega)
            have wr7 := wrapI (a := zz) (by omega) (by omega)
            have wr8 := wrapI (a := ad) (by omega) (by omega)
            have wr9 := wrapI (a := A) (by omega) (by omega)
            have wr10 := wrapI (a := D) (by omega) (by omega)
            have wr11 := wrapI (a := C) (by omega) (by omega)
            have wr12 := wrapI (a := E) (by omega) (by omega)
            have td1 : D.tdiv 16 = h16 := by rw [Int.tdiv_eq_ediv_of_nonneg y1.1, e1]
            have td2 : D.tdiv 8 = D8 := by rw [Int.tdiv_eq_ediv_of_nonneg y1.1, e3]
            have td3 : D8.tmod 2 = D82 := by rw [Int.tmod_eq_emod_of_nonneg (by omega), e4]
            have td4 : D.tdiv 4 = D4 := by rw [Int.tdiv_eq_ediv_of_nonneg y1.1, e5]
            have td5 : D4.tmod 2 = D42 := by rw [Int.tmod_eq_emod_of_nonneg (by omega), e6]
            have td6 : D.tmod 4 = r4 := by rw [Int.tmod_eq_emod_of_nonneg y1.1, e7]
            have i1 : (1 : Int) < (B.size : Int) := by omega
            obtain ⟨X, hX⟩ : ∃ X : Obj, X = .cells #[.int .i64 0, .int .i64 0, .int .i64 0, .int .i64 0, .bool false, .bool false, .int .i64 0, .string ⟨#[]⟩] 29 := ⟨_, rfl⟩
            have HXX := Lib.hid hX
            clear hX
            go_enter Try.func17, Try.ntmps17
            go_wp2_with (go_at_call 31; refine HD.out.mono ?_; rintro _ w2 ⟨rfl, k2⟩; have HA3 := Lib.hid (HS.out w2); have A3 := Lib.hid ((A0.out.keeps k2).alloc (.cells #[.int .i64 120, .bool true, .int .i64 ex, .int .i64 31, .bool true, .int .i64 num, .int .i64 la, .string B] 66)); clear k2)
            have i0 : (0 : Int) < (B.size : Int) := by omega
            have i2 : (2 : Int) < (B.size : Int) := by omega
            have i3 : (3 : Int) < (B.size : Int) := by omega
            have i4 : (4 : Int) ≤ (B.size : Int) := by omega
            refine wp_draw_tail 39 (by kernel_rfl) [.pointer (some ⟨w2.heap.size, 2, none⟩), .int .i64 ex, .int .i64 pd, .pointer (some ⟨w2.heap.size, 5, none⟩), .int .i64 num, .pointer (some ⟨w2.heap.size, 6, none⟩), .int .i64 la, .string B, .int .u8 A, .int .i64 A, .int .i64 A16, .int .i64 D, .int .i64 h16, .int .i64 dt, .int .i64 D, .int .i64 D8, .int .i64 D82, .bool t1, .int .i64 D, .int .i64 D4, .int .i64 D42, .bool t2, .int .i64 D, .int .i64 r4, .int .i64 r4x, .string B, .int .u8 C, .int .i64 C, .int .i64 yy, .int .i64 zz, .string B, .int .u8 E, .int .i64 E, .int .i64 ad, tmV ⟨dt, t1, t2, ad⟩, .string B, .string T, feV ⟨pd, num, la, ⟨dt, t1, t2, ad⟩, T⟩, .pointer (some ⟨w2.heap.size + 1, 0, none⟩)]
              (Once 38 (Eqv (w2.alloc (.cells #[.int .i64 120, .bool true, .int .i64 ex, .int .i64 31, .bool true, .int .i64 num, .int .i64 la, .string B] 66))) (Eqv ((w2.alloc (.cells #[.int .i64 120, .bool true, .int .i64 ex, .int .i64 31, .bool true, .int .i64 num, .int .i64 la, .string B] 66)).alloc X))) rfl (by kernel_rfl) (by kernel_rfl) (fin := ?fin0) ?hfin0 (Once.start (Eqv.drew _)) ?each0 ?hend0
            case hfin0 => simp [seqA, dstOf, Act.put]; rfl
            case each0 =>
              refine ⟨?_, ?_, ?_, ?_, ?_, ?_, ?_, ?_, ?_, ?_, ?_, ?_, ?_, ?_, ?_, ?_, ?_, ?_, ?_, ?_, ?_, ?_, ?_, ?_, ?_, ?_, ?_, ?_, ?_, ?_, ?_, ?_, ?_, ?_, ?_, ?_, ?_, ?_, ?_, trivial⟩
              all_goals intro L w5 h0 hd hs hw
              all_goals unfold Does
              all_goals try simp only [Nat.zero_add, Nat.reduceAdd] at h0
              rotate_left 38
              · have hA := hw.1 h0
                have hz : w5.heap.size = w2.heap.size + 1 := by rw [hA.size, World.size_alloc]
                go_simp
                exact fun L' k => Once.done k (by rw [HXX.out]; exact hA.alloc _)
              all_goals have q2 := (once_secF hw HA3.out).c2
              all_goals have q7 := (once_secF hw HA3.out).c7
              all_goals have q5 := (once_secF hw HA3.out).c5
              all_goals have q6 := (once_secF hw HA3.out).c6
              all_goals simp only at q2 q5 q6 q7
              all_goals (go_simp; exact fun L' k => hw.same (by decide) k)
            case hend0 =>
            intro L w5 hL hw
            obtain ⟨w3, rfl, he⟩ := (hw.2 (hL 38 (by omega))).split
            clear hL hw
            have hz3 : w2.heap.size + 1 = w3.heap.size := by rw [he.size, World.size_alloc]
            rw [HXX.out, hz3]
            simp only [List.drop_succ_cons, List.drop_zero]
            have A4 := Lib.hid ((A3.out.eqv he).alloc (.cells #[.int .i64 pd, .int .i64 num, .int .i64 la, .int .i64 dt, .bool t1, .bool t2, .int .i64 ad, .string T] 29))
            have HP4 := Lib.hid (show CsAt w3.heap.size (feC ⟨pd, num, la, ⟨dt, t1, t2, ad⟩, T⟩) (w3.alloc (.cells #[.int .i64 pd, .int .i64 num, .int .i64 la, .int .i64 dt, .bool t1, .bool t2, .int .i64 ad, .string T] 29)) from CsAt.made w3 #[.int .i64 pd, .int .i64 num, .int .i64 la, .int .i64 dt, .bool t1, .bool t2, .int .i64 ad, .string T] _ (by simp))
            clear he hz3
            go_wp2_with (first | (go_at_call 9; refine (HG.out _).mono ?_; rintro _ w8 ⟨rfl, k8⟩; have A8 := Lib.hid (A4.out.keeps k8); have HP8 := Lib.hid (HP4.out.keeps k8); clear k8) | (refine wp_ldG (b := w3.heap.size) (off := 0) HP8.out.r rfl _ rfl rfl ?_) | (refine wp_stG (b := b) (off := 0) ⟨pd, num, la, ⟨dt, t1, t2, ad⟩, T⟩ (A8.out.z.there (by decide)) rfl _ _ rfl rfl rfl ?_))
            have EE := A8.out.ends (feC ⟨pd, num, la, ⟨dt, t1, t2, ad⟩, T⟩) rfl
            exact cs_ret2 Try.results17 (lvG EE.z.r) rfl rfl rfl (HC.out _ _ _ HE.out EE.k)
          · have HE := Lib.hid (hrd.trans (rdF_bad rfl h2 h3 h5))
            rw [HP.out] at HE h5
            obtain ⟨n, hn⟩ : ∃ n, ckF ⟨pd, num, la, ⟨dt, t1, t2, ad⟩, T⟩ = n := ⟨_, rfl⟩
            rw [hn] at HE h5
            simp only [hn] at HG
            have h5b : (n != 0) = true := by simpa using h5
            clear hb hd hrd h2 hl h4 h3 h5 HX HP e5' hn
            have HS := Lib.hid (fun W => SecAt.made W ⟨120, true, ex, 31, true, num, la, B⟩ 66)
            have wr0 := wrapI (a := A16) (by omega) (by omega)
            have wr1 := wrapI (a := h16) (by omega) (by omega)
            have wr2 := wrapI (a := dt) (by omega) (by omega)
            have wr3 := wrapI (a := D8) (by omega) (by omega)
            have wr4 := wrapI (a := D4) (by omega) (by omega)
            have wr5 := wrapI (a := r4x) (by omega) (by omega)
            have wr6 := wrapI (a := yy) (by omega) (by omega)
            have wr7 := wrapI (a := zz) (by omega) (by omega)
            have wr8 := wrapI (a := ad) (by omega) (by omega)
            have wr9 := wrapI (a := A) (by omega) (by omega)
            have wr10 := wrapI (a := D) (by omega) (by omega)
            have wr11 := wrapI (a := C) (by omega) (by omega)
            have wr12 := wrapI (a := E) (by omega) (by omega)
            have td1 : D.tdiv 16 = h16 := by rw [Int.tdiv_eq_ediv_of_nonneg y1.1, e1]
            have td2 : D.tdiv 8 = D8 := by rw [Int.tdiv_eq_ediv_of_nonneg y1.1, e3]
            have td3 : D8.tmod 2 = D82 := by rw [Int.tmod_eq_emod_of_nonneg (by omega), e4]
            have td4 : D.tdiv 4 = D4 := by rw [Int.tdiv_eq_ediv_of_nonneg y1.1, e5]
            have td5 : D4.tmod 2 = D42 := by rw [Int.tmod_eq_emod_of_nonneg (by omega), e6]
            have td6 : D.tmod 4 = r4 := by rw [Int.tmod_eq_emod_of_nonneg y1.1, e7]
            have i1 : (1 : Int) < (B.size : Int) := by omega
            obtain ⟨X, hX⟩ : ∃ X : Obj, X = .cells #[.int .i64 0, .int .i64 0, .int .i64 0, .int .i64 0, .bool false, .bool false, .int .i64 0, .string ⟨#[]⟩] 29 := ⟨_, rfl⟩
            have HXX := Lib.hid hX
            clear hX
            go_enter Try.func17, Try.ntmps17
            go_wp2_with (go_at_call 31; refine HD.out.mono ?_; rintro _ w2 ⟨rfl, k2⟩; have HA3 := Lib.hid (HS.out w2); have A3 := Lib.hid ((A0.out.keeps k2).alloc (.cells #[.int .i64 120, .bool true, .int .i64 ex, .int .i64 31, .bool true, .int .i64 num, .int .i64 la, .string B] 66)); clear k2)
            have i0 : (0 : Int) < (B.size : Int) := by omega
            have i2 : (2 : Int) < (B.size : Int) := by omega
            have i3 : (3 : Int) < (B.size : Int) := by omega
            have i4 : (4 : Int) ≤ (B.size : Int) := by omega
            refine wp_draw_tail 39 (by kernel_rfl) [.pointer (some ⟨w2.heap.size, 2, none⟩), .int .i64 ex, .int .i64 pd, .pointer (some ⟨w2.heap.size, 5, none⟩), .int .i64 num, .pointer (some ⟨w2.heap.size, 6, none⟩), .int .i64 la, .string B, .int .u8 A, .int .i64 A, .int .i64 A16, .int .i64 D, .int .i64 h16, .int .i64 dt, .int .i64 D, .int .i64 D8, .int .i64 D82, .bool t1, .int .i64 D, .int .i64 D4, .int .i64 D42, .bool t2, .int .i64 D, .int .i64 r4, .int .i64 r4x, .string B, .int .u8 C, .int .i64 C, .int .i64 yy, .int .i64 zz, .string B, .int .u8 E, .int .i64 E, .int .i64 ad, tmV ⟨dt, t1, t2, ad⟩, .string B, .string T, feV ⟨pd, num, la, ⟨dt, t1, t2, ad⟩, T⟩, .pointer (some ⟨w2.heap.size + 1, 0, none⟩)]
              (Once 38 (Eqv (w2.alloc (.cells #[.int .i64 120, .bool true, .int .i64 ex, .int .i64 31, .bool true, .int .i64 num, .int .i64 la, .string B] 66))) (Eqv ((w2.alloc (.cells #[.int .i64 120, .bool true, .int .i64 ex, .int .i64 31, .bool true, .int .i64 num, .int .i64 la, .string B] 66)).alloc X))) rfl (by kernel_rfl) (by kernel_rfl) (fin := ?fin1) ?hfin1 (Once.start (Eqv.drew _)) ?each1 ?hend1
            case hfin1 => simp [seqA, dstOf, Act.put]; rfl
            case each1 =>
              refine ⟨?_, ?_, ?_, ?_, ?_, ?_, ?_, ?_, ?_, ?_, ?_, ?_, ?_, ?_, ?_, ?_, ?_, ?_, ?_, ?_, ?_, ?_, ?_, ?_, ?_, ?_, ?_, ?_, ?_, ?_, ?_, ?_, ?_, ?_, ?_, ?_, ?_, ?_, ?_, trivial⟩
              all_goals intro L w5 h0 hd hs hw
              all_goals unfold Does
              all_goals try simp only [Nat.zero_add, Nat.reduceAdd] at h0
              rotate_left 38
              · have hA := hw.1 h0
                have hz : w5.heap.size = w2.heap.size + 1 := by rw [hA.size, World.size_alloc]
                go_simp
                exact fun L' k => Once.done k (by rw [HXX.out]; exact hA.alloc _)
              all_goals have q2 := (once_secF hw HA3.out).c2
              all_goals have q7 := (once_secF hw HA3.out).c7
              all_goals have q5 := (once_secF hw HA3.out).c5
              all_goals have q6 := (once_secF hw HA3.out).c6
              all_goals simp only at q2 q5 q6 q7
              all_goals (go_simp; exact fun L' k => hw.same (by decide) k)
            case hend1 =>
            intro L w5 hL hw
            obtain ⟨w3, rfl, he⟩ := (hw.2 (hL 38 (by omega))).split
            clear hL hw
            have hz3 : w2.heap.size + 1 = w3.heap.size := by rw [he.size, World.size_alloc]
            rw [HXX.out, hz3]
            simp only [List.drop_succ_cons, List.drop_zero]
            have A4 := Lib.hid ((A3.out.eqv he).alloc (.cells #[.int .i64 pd, .int .i64 num, .int .i64 la, .int .i64 dt, .bool t1, .bool t2, .int .i64 ad, .string T] 29))
            have HP4 := Lib.hid (show CsAt w3.heap.size (feC ⟨pd, num, la, ⟨dt, t1, t2, ad⟩, T⟩) (w3.alloc (.cells #[.int .i64 pd, .int .i64 num, .int .i64 la, .int .i64 dt, .bool t1, .bool t2, .int .i64 ad, .string T] 29)) from CsAt.made w3 #[.int .i64 pd, .int .i64 num, .int .i64 la, .int .i64 dt, .bool t1, .bool t2, .int .i64 ad, .string T] _ (by simp))
            clear he hz3
            go_wp2_with (first | (go_at_call 9; refine (HG.out _).mono ?_; rintro _ w8 ⟨rfl, k8⟩; have A8 := Lib.hid (A4.out.keeps k8); have HP8 := Lib.hid (HP4.out.keeps k8); clear k8) | (refine wp_ldG (b := w3.heap.size) (off := 0) HP8.out.r rfl _ rfl rfl ?_) | (refine wp_stG (b := b) (off := 0) zf (A8.out.z.there (by decide)) rfl _ _ rfl rfl rfl ?_))
            have EE := A8.out.ends (feC zf) rfl
            exact cs_ret2 Try.results17 (lvG EE.z.r) rfl rfl rfl (HC.out _ _ _ HE.out EE.k)
      · have HE := Lib.hid (hrd.trans (rdF_form h1 h2))
        have hng : S.pv = false ∨ (S.pv = true ∧ (S.ver != 31) = true) ∨ (S.pv = true ∧ S.ver = 31 ∧ S.nw = false) ∨ (S.pv = true ∧ S.ver = 31 ∧ S.nw = true ∧ (S.ex % 256 != 255) = true) := by
          unfold goodF at h2
          simp only [bne_iff_ne, ne_eq]
          cases hpv : S.pv
          · simp
          · by_cases k1 : S.ver = 31
            · cases k2 : S.nw
              · simp [k1]
              · by_cases k3 : S.ex % 256 = 255
                · exact absurd ⟨k1, k2, hpv, k3⟩ h2
                · simp [k1, k3]
            · simp [k1]
        obtain ⟨xm, hxm⟩ : ∃ x, S.ex % 256 = x := ⟨_, rfl⟩
        have gm : S.ex.tmod 256 = xm := by rw [Int.tmod_eq_emod_of_nonneg x1, hxm]
        rw [hxm] at hng
        clear hb hd hrd h2 hbz hxm x1 x2
        obtain ⟨tb, pv, ex, ver, nw, num, la, B⟩ := S
        simp only at h1 hng gm
        subst h1
        rcases hng with rfl | ⟨rfl, g2⟩ | ⟨rfl, rfl, rfl⟩ | ⟨rfl, rfl, rfl, g2⟩
        · go_enter Try.func17, Try.ntmps17
          go_wp2_with (first | (go_at_call 31; refine HD.out.mono ?_; rintro _ w2 ⟨rfl, k2⟩; have A2 := Lib.hid ((A0.out.keeps k2).alloc (.cells #[.int .i64 120, .bool false, .int .i64 ex, .int .i64 ver, .bool nw, .int .i64 num, .int .i64 la, .string B] 66)); clear k2) | (refine wp_stG (b := b) (off := 0) zf (A2.out.z.there (by decide)) rfl _ _ rfl rfl rfl ?_))
          have E := A2.out.ends (feC zf) rfl
          exact cs_ret2 Try.results17 (lvG E.z.r) rfl rfl rfl (HC.out _ _ _ HE.out E.k)
        · go_enter Try.func17, Try.ntmps17
          go_wp2_with (first | (go_at_call 31; refine HD.out.mono ?_; rintro _ w2 ⟨rfl, k2⟩; have A2 := Lib.hid ((A0.out.keeps k2).alloc (.cells #[.int .i64 120, .bool true, .int .i64 ex, .int .i64 ver, .bool nw, .int .i64 num, .int .i64 la, .string B] 66)); clear k2) | (refine wp_stG (b := b) (off := 0) zf (A2.out.z.there (by decide)) rfl _ _ rfl rfl rfl ?_))
          have E := A2.out.ends (feC zf) rfl
          exact cs_ret2 Try.results17 (lvG E.z.r) rfl rfl rfl (HC.out _ _ _ HE.out E.k)
        · go_enter Try.func17, Try.ntmps17
          go_wp2_with (first | (go_at_call 31; refine HD.out.mono ?_; rintro _ w2 ⟨rfl, k2⟩; have A2 := Lib.hid ((A0.out.keeps k2).alloc (.cells #[.int .i64 120, .bool true, .int .i64 ex, .int .i64 31, .bool false, .int .i64 num, .int .i64 la, .string B] 66)); clear k2) | (refine wp_stG (b := b) (off := 0) zf (A2.out.z.there (by decide)) rfl _ _ rfl rfl rfl ?_))
          have E := A2.out.ends (feC zf) rfl
          exact cs_ret2 Try.results17 (lvG E.z.r) rfl rfl rfl (HC.out _ _ _ HE.out E.k)
        · go_enter Try.func17, Try.ntmps17
          go_wp2_with (first | (go_at_call 31; refine HD.out.mono ?_; rintro _ w2 ⟨rfl, k2⟩; have A2 := Lib.hid ((A0.out.keeps k2).alloc (.cells #[.int .i64 120, .bool true, .int .i64 ex, .int .i64 31, .bool true, .int .i64 num, .int .i64 la, .string B] 66)); clear k2) | (refine wp_stG (b := b) (off := 0) zf (A2.out.z.there (by decide)) rfl _ _ rfl rfl rfl ?_))
          have E := A2.out.ends (feC zf) rfl
          exact cs_ret2 Try.results17 (lvG E.z.r) rfl rfl rfl (HC.out _ _ _ HE.out E.k)
    · have HE := Lib.hid (hrd.trans (rdF_kind h1))
      have htb : (S.tb != 120) = true := by simpa using h1
      obtain ⟨tb, pv, ex, ver, nw, num, la, B⟩ := S
      simp only at htb
      clear hb hd hrd h1 hbz x1 x2
      go_enter Try.func17, Try.ntmps17
      go_wp2_with (first | (go_at_call 31; refine HD.out.mono ?_; rintro _ w2 ⟨rfl, k2⟩; have A2 := Lib.hid ((A0.out.keeps k2).alloc (.cells #[.int .i64 tb, .bool pv, .int .i64 ex, .int .i64 ver, .bool nw, .int .i64 num, .int .i64 la, .string B] 66)); clear k2) | (refine wp_stG (b := b) (off := 0) zf (A2.out.z.there (by decide)) rfl _ _ rfl rfl rfl ?_))
      have E := A2.out.ends (feC zf) rfl
      exact cs_ret2 Try.results17 (lvG E.z.r) rfl rfl rfl (HC.out _ _ _ HE.out E.k)
  · have HE := Lib.hid (show dcF (ls s) = (zf, e) by rw [dcF_bad (by rw [hd]; exact he), hd])
    have hrb : (e != 0) = true := by simpa using he
    obtain ⟨tb, pv, ex, ver, nw, num, la, B⟩ := S
    clear hd
    go_enter Try.func17, Try.ntmps17
    go_wp2_with (first | (go_at_call 31; refine HD.out.mono ?_; rintro _ w2 ⟨rfl, k2⟩; have A2 := Lib.hid ((A0.out.keeps k2).alloc (.cells #[.int .i64 tb, .bool pv, .int .i64 ex, .int .i64 ver, .bool nw, .int .i64 num, .int .i64 la, .string B] 66)); clear k2) | (refine wp_stG (b := b) (off := 0) zf (A2.out.z.there (by decide)) rfl _ _ rfl rfl rfl ?_))
    have E := A2.out.ends (feC zf) rfl
    exact cs_ret2 Try.results17 (lvG E.z.r) rfl rfl rfl (HC.out _ _ _ HE.out E.k)
end Go.Proofs.Ytdpgphidielajaa
