/-
  What Encode of package section answers, and the document's Bytes. The memory that was there stays.
-/
import Derived.Test.YtebfihghfkcicaaScD
import Derived.Test.YtebfihghfkcicaaBitsOut
namespace Go.Proofs.Ytebfihghfkcicaa
open Go.RowKit Gf Sct Bit
set_option maxRecDepth 100000
/-- The fields as the array that the program writes. -/
def fi (s : Sec) : List (Int × Int) := [(s.tb, 8), (1, 1), ((bn s.pv : Int), 1), (3, 2), (9 + (s.body.size : Int), 12), (s.ex, 16), (3, 2), (s.ver, 5), ((bn s.nw : Int), 1), (s.num, 8), (s.la, 8)]
def fcs (l : List (Int × Int)) : List Value := l.flatMap fun p => [.int .i64 p.1, .int .i64 p.2]
theorem fcs_one (l : List (Int × Int)) : ∀ v ∈ fcs l, v.oneCell' = true := by
  intro v hv
  unfold fcs at hv
  obtain ⟨p, _, hp⟩ := List.mem_flatMap.1 hv
  simp only [List.mem_cons, List.not_mem_nil, or_false] at hp
  rcases hp with rfl | rfl <;> rfl
theorem fi_get {s : Sec} (h : chk s = 0) {k : Nat} (hk : k < 11) : ∃ (x n : Nat) (X N : Int), (fl s)[k]? = some (x, n) ∧ (fi s)[k]? = some (X, N) ∧ X = un x ∧ N = (n : Int) ∧ 0 ≤ X ∧ X ≤ 65535 ∧ 1 ≤ N ∧ N ≤ 16 ∧ x < 2 ^ 64 ∧ n ≤ 16 := by
  obtain ⟨⟨h1, h2, h3, h4, h5, h6, h7, h8, h9, h10⟩, h11⟩ := chk_fit h
  have b1 := bn_le s.pv
  have b2 := bn_le s.nw
  have t64 : (2 : Nat) ^ 64 = 18446744073709551616 := rfl
  have hk' : k = 0 ∨ k = 1 ∨ k = 2 ∨ k = 3 ∨ k = 4 ∨ k = 5 ∨ k = 6 ∨ k = 7 ∨ k = 8 ∨ k = 9 ∨ k = 10 := by omega
  rcases hk' with rfl | rfl | rfl | rfl | rfl | rfl | rfl | rfl | rfl | rfl | rfl
  all_goals (refine ⟨_, _, _, _, rfl, rfl, ?_, ?_, ?_, ?_, ?_, ?_, ?_, ?_⟩ <;> (try unfold un) <;> (try rw [t64]) <;> omega)
theorem index11 {l : List (Int × Int)} (hl : l.length = 11) {k : Nat} (hk : k < 11) {X N : Int} (h : l[k]? = some (X, N)) (w : World) :
    (Instr.index 82 (.agg (fcs l).toArray) (.int .i64 (k : Int))).run Try.prog w = .ok (.agg #[.int .i64 X, .int .i64 N]) w := by
  match l, hl with
  | [a0, a1, a2, a3, a4, a5, a6, a7, a8, a9, a10], _ =>
    have hk' : k = 0 ∨ k = 1 ∨ k = 2 ∨ k = 3 ∨ k = 4 ∨ k = 5 ∨ k = 6 ∨ k = 7 ∨ k = 8 ∨ k = 9 ∨ k = 10 := by omega
    rcases hk' with rfl | rfl | rfl | rfl | rfl | rfl | rfl | rfl | rfl | rfl | rfl
    all_goals
      simp at h
      subst h
      simp [Instr.index, run_underlying Try.underlying82, asIntOf, Try.sizeOf80, part, Try.isAgg80, fcs]
/-- Put, its number by a name. -/
theorem scput_at {b : Nat} {L : List Bool} {w : World} (h : OutAt b L w) {x n : Nat} {X N : Int} (hX : X = un x) (hN : N = (n : Int)) (hx : x < 2 ^ 64) (hn : n ≤ 16) (hL : L.length + n ≤ 1000000) :
    Calls Try.prog 31 #[.pointer (some ⟨b, 0, none⟩), .int .u64 X, .int .i64 N] w fun e w' => e = .returned (.int .i64 0) ∧ OutAt b (L ++ lb x n) w' ∧ Only b w w' := by
  subst hX hN
  exact put_ok h x n hx (by omega) hL
theorem fb_take {l : List (Nat × Nat)} {k : Nat} {x n : Nat} (h : l[k]? = some (x, n)) : fb (l.take k) ++ lb x n = fb (l.take (k + 1)) := by
  unfold fb
  rw [List.take_add_one, h, List.flatMap_append]; simp
theorem fb_len {s : Sec} (k : Nat) : (fb ((fl s).take k)).length ≤ 64 := by
  have e : (fb (fl s)).length = 64 := by unfold fb fl; simp [lb_length]
  have : fb (fl s) = fb ((fl s).take k) ++ fb ((fl s).drop k) := by unfold fb; rw [← List.flatMap_append, List.take_append_drop]
  rw [this, List.length_append] at e; omega
theorem rng_new (w : World) (cs : List Value) (t : TypeId) : (w.alloc (.cells cs.toArray t)).rangeAt w.heap.size 0 cs := by
  intro j v hv
  rw [World.cell?_alloc_new, Nat.zero_add, List.getElem?_toArray]; exact hv
/-- A section's bytes, or what is wrong with it. -/
def ecd (s : Sec) : List UInt8 × Int := if chk s = 0 then (Sct.bytes s, 0) else ([], chk s)
theorem ecd_ok {s : Sec} (h : chk s = 0) : ecd s = (Sct.bytes s, 0) := by unfold ecd; rw [if_pos h]
theorem ecd_no {s : Sec} (h : chk s ≠ 0) : ecd s = ([], chk s) := by unfold ecd; rw [if_neg h]
def ScEncPost (w0 : World) (s : Sec) (e : Ending) (w' : World) : Prop := e = .returned (.tuple #[.string (st (ecd s).1), .int .i64 (ecd s).2]) ∧ Keeps w0 w'
theorem ScEncPost.of {w0 W : World} {s : Sec} {l : List UInt8} {n : Int} {t : ByteArray} (e : ecd s = (l, n)) (ht : t = st l) (k : Keeps w0 W) : ScEncPost w0 s (.returned (.tuple #[.string t, .int .i64 n])) W := by unfold ScEncPost; rw [e, ht]; exact ⟨rfl, k⟩
theorem Once.sec {w2 w5 : World} {X : Obj} {L : Nat → Bool} {b : Nat} {s : Sec} (hw : Once 32 (Eqv w2) (Eqv (w2.alloc X)) L w5) (h : SecAt b s w2) : SecAt b s w5 := by
  cases e : L 32
  · exact h.eqv (hw.1 e)
  · exact (h.keeps ((Keeps.refl w2).alloc X)).eqv (hw.2 e)
theorem sz59 : (Try.prog.info? 82).map (·.size) = some 22 := by kernel_rfl
theorem there_new (w : World) (cs : Array Value) (t : TypeId) : (w.alloc (.cells cs t)).there w.heap.size 0 cs.size := by
  intro j hj
  rw [Nat.zero_add]
  exact ⟨by rw [World.cell?_alloc_new]; simp; omega, World.frozen?_alloc_new _ _ _ _⟩
def encRel (w0 : World) (b bo : Nat) (s : Sec) (x : Value) (wr : World) : Prop := ∃ k : Nat, k ≤ 11 ∧ x = .int .i64 (k : Int) ∧ OutAt bo (fb ((fl s).take k)) wr ∧ SecAt b s wr ∧ Keeps w0 wr
set_option maxHeartbeats 6400000 in
theorem scenc_any (w0 : World) (s : Sec) (w : World) (hk : Keeps w0 w) :
    Calls Try.prog 22 #[secV s] w (ScEncPost w0 s) := by
  have h1 := SecAt.made w s 65
  obtain ⟨b, hb⟩ : ∃ b, w.heap.size = b := ⟨_, rfl⟩
  obtain ⟨wA, hA⟩ : ∃ wA, w.alloc (.cells #[.int .i64 s.tb, .bool s.pv, .int .i64 s.ex, .int .i64 s.ver, .bool s.nw, .int .i64 s.num, .int .i64 s.la, .string s.body] 65) = wA := ⟨_, rfl⟩
  have hkA : Keeps w0 wA := by rw [← hA]; exact hk.alloc _
  have hmb : w0.heap.size ≤ b := by rw [← hb]; exact Below.size hk
  rw [hA, hb] at h1
  have HS1 := Lib.hid h1
  have HCK := Lib.hid (sccheck_any wA s wA (Keeps.refl wA))
  unfold ChkPost at HCK
  have HKA := Lib.hid hkA
  clear h1 hkA hk
  by_cases hc : chk s = 0
  · rw [hc] at HCK
    have HC := Lib.hid hc
    obtain ⟨S, hS⟩ : ∃ S, s.body = S := ⟨_, rfl⟩
    obtain ⟨hfit, hz⟩ := chk_fit hc
    have HEN := Lib.hid (ecd_ok hc)
    clear hc hfit
    obtain ⟨tb, pv, ex, ver, nw, num, la, S'⟩ := s
    simp only at hA hS
    subst hS
    go_enter Try.func22, Try.ntmps22
    go_wp2_with (first | (refine wp_ldS HS1.out.range rfl _ rfl rfl ?_) | (go_at_call 29; refine HCK.out.mono ?_; rintro _ w2 ⟨rfl, k1⟩; have HS2 := Lib.hid (HS1.out.keeps k1); have HK2 := Lib.hid (HKA.out.trans k1); clear k1))
    obtain ⟨X, hX⟩ : ∃ X : Obj, X = .cells #[.int .i64 0, .int .i64 0, .int .i64 0, .int .i64 0, .int .i64 0, .int .i64 0, .int .i64 0, .int .i64 0, .int .i64 0, .int .i64 0, .int .i64 0, .int .i64 0, .int .i64 0, .int .i64 0, .int .i64 0, .int .i64 0, .int .i64 0, .int .i64 0, .int .i64 0, .int .i64 0, .int .i64 0, .int .i64 0] 82 := ⟨_, rfl⟩
    have HXX := Lib.hid hX
    have wr9 := wrapI (a := 9 + (S'.size : Int)) (by omega) (by omega)
    clear hX
    refine wp_draw_tail 33 (by kernel_rfl)
      [.pointer (some ⟨b, 0, none⟩), .int .i64 (tb), .agg #[.int .i64 (tb), .int .i64 8], .agg #[.int .i64 (1), .int .i64 1], .pointer (some ⟨b, 1, none⟩), .bool pv, .int .i64 ((bn pv : Int)), .agg #[.int .i64 ((bn pv : Int)), .int .i64 1], .agg #[.int .i64 (3), .int .i64 2], .pointer (some ⟨b, 7, none⟩), .string S', .int .i64 ((S'.size : Int)), .int .i64 (9 + (S'.size : Int)), .agg #[.int .i64 (9 + (S'.size : Int)), .int .i64 12], .pointer (some ⟨b, 2, none⟩), .int .i64 (ex), .agg #[.int .i64 (ex), .int .i64 16], .agg #[.int .i64 (3), .int .i64 2], .pointer (some ⟨b, 3, none⟩), .int .i64 (ver), .agg #[.int .i64 (ver), .int .i64 5], .pointer (some ⟨b, 4, none⟩), .bool nw, .int .i64 ((bn nw : Int)), .agg #[.int .i64 ((bn nw : Int)), .int .i64 1], .pointer (some ⟨b, 5, none⟩), .int .i64 (num), .agg #[.int .i64 (num), .int .i64 8], .pointer (some ⟨b, 6, none⟩), .int .i64 (la), .agg #[.int .i64 (la), .int .i64 8], .agg #[.int .i64 (tb), .int .i64 8, .int .i64 (1), .int .i64 1, .int .i64 ((bn pv : Int)), .int .i64 1, .int .i64 (3), .int .i64 2, .int .i64 (9 + (S'.size : Int)), .int .i64 12, .int .i64 (ex), .int .i64 16, .int .i64 (3), .int .i64 2, .int .i64 (ver), .int .i64 5, .int .i64 ((bn nw : Int)), .int .i64 1, .int .i64 (num), .int .i64 8, .int .i64 (la), .int .i64 8], .pointer (some ⟨w2.heap.size, 0, none⟩)]
      (Once 32 (Eqv w2) (Eqv (w2.alloc X)))
      rfl (by kernel_rfl) (by kernel_rfl) (fin := ?fin) ?hfin (Once.start (Eqv.drew w2)) ?each ?hend
    case hfin => simp [seqA, dstOf, Act.put]; rfl
    case each =>
      refine ⟨?_, ?_, ?_, ?_, ?_, ?_, ?_, ?_, ?_, ?_, ?_, ?_, ?_, ?_, ?_, ?_, ?_, ?_, ?_, ?_, ?_, ?_, ?_, ?_, ?_, ?_, ?_, ?_, ?_, ?_, ?_, ?_, ?_, trivial⟩
      all_goals intro L w5 h0 hd hs hw
      all_goals unfold Does
      all_goals try simp only [Nat.zero_add, Nat.reduceAdd] at h0
      rotate_left 32
      · have hA := hw.1 h0
        have hz := hA.size
        go_simp
        exact fun L' k => Once.done k (by rw [HXX.out]; exact hA.alloc _)
      all_goals obtain ⟨q0, q1, q2, q3, q4, q5, q6, q7, _⟩ := hw.sec HS2.out
      all_goals go_simp
      all_goals first
        | exact fun L' k => hw.same (by decide) k
        | (refine (scbit_any _ _).mono ?_; rintro e w6 ⟨rfl, rfl⟩; exact ⟨_, rfl, rfl, fun L' k => hw.same (by decide) k⟩)
    case hend =>
    intro L w5 hL hw
    obtain ⟨w3, rfl, he⟩ := (hw.2 (hL 32 (by omega))).split
    clear hL hw
    rw [← he.size]
    simp only [List.drop_succ_cons, List.drop_zero]
    have HS3 := Lib.hid (HS2.out.eqv he)
    have HK3 := Lib.hid (HK2.out.eqv he)
    clear he
    have ht3 : (w3.alloc X).there w3.heap.size 0 22 := by rw [HXX.out]; exact there_new w3 _ _
    obtain ⟨CS, hCS⟩ : ∃ CS : List Value, CS = [.int .i64 (tb), .int .i64 8, .int .i64 (1), .int .i64 1, .int .i64 ((bn pv : Int)), .int .i64 1, .int .i64 (3), .int .i64 2, .int .i64 (9 + (S'.size : Int)), .int .i64 12, .int .i64 (ex), .int .i64 16, .int .i64 (3), .int .i64 2, .int .i64 (ver), .int .i64 5, .int .i64 ((bn nw : Int)), .int .i64 1, .int .i64 (num), .int .i64 8, .int .i64 (la), .int .i64 8] := ⟨_, rfl⟩
    have hfc : fcs (fi ⟨tb, pv, ex, ver, nw, num, la, S'⟩) = CS := by rw [hCS]; rfl
    have hCl : CS.length = 22 := by rw [hCS]; rfl
    have hCo : CS.toArray.all (·.oneCell') = true := by rw [← hfc]; exact all_oneCell_toArray (fcs_one _)
    have hCz : CS.toArray.size = 22 := by rw [List.size_toArray, hCl]
    have r4 := World.rangeAt_setCells_same (w3.alloc X) w3.heap.size 0 CS (by rw [hCl]; exact ht3)
    have hk4 := (only_setCells w3.heap.size CS 0 (w3.alloc X)).keeps ((Keeps.refl w3).alloc X) (Nat.le_refl _)
    have hz4 : w3.heap.size + 1 ≤ ((w3.alloc X).setCells w3.heap.size 0 CS).heap.size := by have := (only_setCells w3.heap.size CS 0 (w3.alloc X)).size; rwa [World.size_alloc] at this
    refine wpList_store_mid rfl 82 _ _ rfl w3.heap.size 0 CS.toArray rfl (by rw [hCS]; rfl) (by rw [hCz]; exact ht3) (by rw [hCz]; exact sz59) hCo ?_
    obtain ⟨w4, hw4⟩ : ∃ w4, (w3.alloc X).setCells w3.heap.size 0 CS = w4 := ⟨_, rfl⟩
    have k34 : Keeps w3 w4 := by rw [← hw4]; exact hk4
    rw [hw4] at r4 hz4
    rw [show (w3.alloc X).setCells w3.heap.size 0 CS.toArray.toList = w4 from hw4]
    clear hk4 hCS hCo ht3 hCz
    have hO5 := out_zero w4
    obtain ⟨w5, hw5⟩ : ∃ w5, w4.alloc (.cells zout 88) = w5 := ⟨_, rfl⟩
    have k45 : Keeps w4 w5 := by rw [← hw5]; exact (Keeps.refl w4).alloc _
    rw [hw5] at hO5
    have hS5 := (HS3.out.keeps k34).keeps k45
    have hK5 := (HK3.out.trans k34).trans k45
    have r5 : w5.rangeAt w3.heap.size 0 CS := by rw [← hw5]; exact World.rangeAt_alloc r4 _
    have hob := HS3.out.old
    obtain ⟨bo, hbo⟩ : ∃ bo, w4.heap.size = bo := ⟨_, rfl⟩
    rw [hbo] at hO5
    have hne : b ≠ bo := by omega
    have hmo : w0.heap.size ≤ bo := by omega
    have HIX := Lib.hid (fun (k : Nat) (hk : k < 11) X N (h : (fi ⟨tb, pv, ex, ver, nw, num, la, S'⟩)[k]? = some (X, N)) => index11 rfl hk h)
    rw [hfc] at HIX
    have HR5 := Lib.hid r5
    have HO5 := Lib.hid hO5
    have HS5 := Lib.hid hS5
    have HK5 := Lib.hid hK5
    have HNE := Lib.hid hne
    have HMO := Lib.hid hmo
    have HCL := Lib.hid (sz59.trans (by rw [hCl]) : (Try.prog.info? 82).map (·.size) = some CS.length)
    clear r4 r5 k34 k45 hO5 hS5 hK5 hne hmo hCl hz4 hob hw4 hfc
    go_wp2_with (first | (with_reducible refine wpList_allocZ infoOut rfl rfl ?_; rw [hw5, hbo]) | (refine wpList_load_mid rfl 82 _ rfl w3.heap.size 0 rfl CS _ HR5.out Try.underlying82 rfl HCL.out ?_))
    go_loopw [47] (fun x wr => encRel w0 b bo ⟨tb, pv, ex, ver, nw, num, la, S'⟩ x wr) (fun x _ => 11 - (intOf x).toNat)
    case atStart => exact ⟨0, by omega, rfl, HO5.out, HS5.out, HK5.out⟩
    case round =>
      obtain ⟨k, hk, rfl, hO, hSr, hKr⟩ := hrel
      have HO := Lib.hid hO
      have HSr := Lib.hid hSr
      have HKr := Lib.hid hKr
      clear hO hSr hKr
      by_cases hlt : k < 11
      · obtain ⟨x, n, X, N, g1, g2, gX, gN, y1, y2, y3, y4, y5, y6⟩ := fi_get HC.out hlt
        have hix := HIX.out k hlt X N g2
        have HT := Lib.hid (fb_take g1)
        have HL := Lib.hid (fb_len (s := ⟨tb, pv, ex, ver, nw, num, la, S'⟩) k)
        have GX := Lib.hid gX
        have GN := Lib.hid gN
        have GY := Lib.hid y5
        have hkI : (k : Int) < 11 := by omega
        clear g1 g2 gX gN y5
        go_wp2_with (first | (go_at_call 31; refine (scput_at (OutR.keeps HO.out ((Keeps.refl wr).alloc (.cells #[.int .i64 X, .int .i64 N] 80))) GX.out GN.out GY.out y6 (by have := HL.out; omega)).mono ?_; rintro _ w6 ⟨rfl, hO6, k6⟩))
        go_roundw
        case rel => exact ⟨k + 1, by omega, by go_num, by rw [← HT.out]; exact hO6, (HSr.out.keeps ((Keeps.refl wr).alloc _)).only HNE.out k6, k6.keeps (HKr.out.alloc _) HMO.out⟩
        case measure => simp [intOf]; omega
      · obtain rfl : k = 11 := by omega
        have hq7 := HSr.out.c7
        have hkI : ¬ ((11 : Nat) : Int) < 11 := by decide
        have HW := Lib.hid (show fb ((fl ⟨tb, pv, ex, ver, nw, num, la, S'⟩).take 11) ++ ob (ls S') = ob (open8 ⟨tb, pv, ex, ver, nw, num, la, S'⟩) by
          rw [show (fl ⟨tb, pv, ex, ver, nw, num, la, S'⟩).take 11 = fl ⟨tb, pv, ex, ver, nw, num, la, S'⟩ from rfl, fb_fl HC.out]
          unfold open8
          rw [ob_append])
        have HL := Lib.hid (fb_len (s := ⟨tb, pv, ex, ver, nw, num, la, S'⟩) 11)
        obtain ⟨U, hU⟩ : ∃ U, st (pack (ob (open8 ⟨tb, pv, ex, ver, nw, num, la, S'⟩))) = U := ⟨_, rfl⟩
        have HU := Lib.hid (show ls U = open8 ⟨tb, pv, ex, ver, nw, num, la, S'⟩ by rw [← hU, pack_ob, ls_st])
        have HUz := Lib.hid (show U.size ≤ 1000000 by rw [ls_size, HU.out, open8_length]; show S'.size + 8 ≤ 1000000; omega)
        go_wp2_with (first | (go_at_call 32; refine (otext_one HO.out S' (by have := HL.out; omega)).mono ?_; rintro _ w7 ⟨⟨v7, rfl⟩, hO7, k7⟩; rw [HW.out] at hO7; have HO7 := Lib.hid hO7; have HK7 := Lib.hid (k7.keeps HKr.out HMO.out); clear hO7 k7) | (go_at_call 34; refine (string_any HO7.out (by rw [ob_length, open8_length]; show 8 * (S'.size + 8) ≤ 1000000; omega)).mono ?_; rintro _ w8 ⟨rfl, k8⟩; rw [hU]; have HK8 := Lib.hid (HK7.out.trans k8); clear k8) | (go_at_call 33; refine (seal_any w8 U w8 HUz.out (Keeps.refl w8)).mono ?_; rintro _ w9 ⟨rfl, k9⟩; rw [HU.out]))
        go_ret2
        exact ScEncPost.of HEN.out rfl (HK8.out.trans k9)
  · have HEN := Lib.hid (ecd_no hc)
    have hcb : (chk s != 0) = true := by simpa using hc
    obtain ⟨r, hr⟩ : ∃ r, chk s = r := ⟨_, rfl⟩
    rw [hr] at HCK HEN hcb
    clear hc hr
    obtain ⟨tb, pv, ex, ver, nw, num, la, S⟩ := s
    simp only at hA
    go_enter Try.func22, Try.ntmps22
    go_wp2_with (first | (refine wp_ldS HS1.out.range rfl _ rfl rfl ?_) | (go_at_call 29; refine HCK.out.mono ?_; rintro _ w1 ⟨rfl, k1⟩))
    go_ret2
    exact ScEncPost.of HEN.out rfl (HKA.out.trans k1)
end Go.Proofs.Ytebfihghfkcicaa
namespace Go.Proofs.Ytebfihghfkcicaa
open Go.RowKit Gf Sct Bit
set_option maxRecDepth 100000
theorem B_u8 {n : Nat} {x : Int} (h : n < 256) (e : (n : Int) = x) : B (u8 n) = .int .u8 x := by
  unfold B; rw [u8_nat h, e]
theorem hd8_conv {s : Sec} (h : chk s = 0) {F V : Int} (hF : (flg s : Int) = F) (hV : (vby s : Int) = V) (w : World) (C : Array Value)
    (hC : C = #[.int .u8 s.tb, .int .u8 F, .int .u8 (((s.body.size : Int) + 9) % 256), .int .u8 (s.ex / 256), .int .u8 (s.ex % 256), .int .u8 V, .int .u8 s.num, .int .u8 s.la]) :
    (convert 46 9 (.slice (some ⟨w.heap.size, 0, none⟩) 8 8)).run Try.prog (w.alloc (.cells C 5)) = .ok (.string (st (hd8 s))) (w.alloc (.cells C 5)) := by
  have hc := (Blk.lit w (hd8 s) 5).whole 8 (hd8_length s).symm
  obtain ⟨⟨h1, h2, h3, h4, h5, h6, h7, h8, h9, h10⟩, h11⟩ := chk_fit h
  have b1 := bn_le s.pv
  have b2 := bn_le s.nw
  have e : ((hd8 s).map B).toArray = C := by
    rw [hC]
    unfold hd8
    simp only [List.map_cons, List.map_nil]
    rw [B_u8 (x := s.tb) (by omega) (by omega), B_u8 (n := flg s) (by unfold flg; omega) hF, B_u8 (x := ((s.body.size : Int) + 9) % 256) (by omega) (by omega), B_u8 (n := s.ex.toNat / 256) (x := s.ex / 256) (by omega) (by omega), B_u8 (n := s.ex.toNat % 256) (x := s.ex % 256) (by omega) (by omega), B_u8 (n := vby s) (by unfold vby; omega) hV, B_u8 (x := s.num) (by omega) (by omega), B_u8 (x := s.la) (by omega) (by omega)]
  rwa [e] at hc
end Go.Proofs.Ytebfihghfkcicaa
