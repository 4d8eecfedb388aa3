/-
  For any string, any number of bits ahead and any two numbers of bits BitsParts returns true: a field is read in two as in one, and a text is as its bytes; nothing that was there is changed. No condition.
-/
import Derived.Test.YtfkadmcndjohbaaRows
import Derived.Test.YtfkadmcndjohbaaBitsOp
namespace Go.Proofs.Ytfkadmcndjohbaa.bitsParts
open Go.ChangeShapes Go.WideShapes Go.ChangeAt Go.RowKit Gf Bit
set_option maxRecDepth 100000
open Go.ChangeMaps (open_string shut_string)
set_option linter.unusedVariables false
/-- Three readers of a text. -/
structure Trio (s : ByteArray) (w0 : World) (r t u : Nat) (er : Int) (pr : Nat) (et : Int) (pt : Nat) (eu : Int) (pu : Nat) (W : World) : Prop where
  ir : InAt r er s pr W
  it : InAt t et s pt W
  iu : InAt u eu s pu W
  kp : Keeps w0 W
def Apart (w0 : World) (r t u : Nat) : Prop := r ≠ t ∧ r ≠ u ∧ t ≠ u ∧ w0.heap.size ≤ r ∧ w0.heap.size ≤ t ∧ w0.heap.size ≤ u
theorem Trio.r {s : ByteArray} {w0 W W' : World} {r t u pr pt pu p' : Nat} {er et eu e' : Int} (h : Trio s w0 r t u er pr et pt eu pu W) (hn : Apart w0 r t u) (h' : InAt r e' s p' W') (k : Only r W W') : Trio s w0 r t u e' p' et pt eu pu W' :=
  ⟨h', h.it.only (Ne.symm hn.1) k, h.iu.only (Ne.symm hn.2.1) k, k.keeps h.kp hn.2.2.2.1⟩
theorem Trio.t {s : ByteArray} {w0 W W' : World} {r t u pr pt pu p' : Nat} {er et eu e' : Int} (h : Trio s w0 r t u er pr et pt eu pu W) (hn : Apart w0 r t u) (h' : InAt t e' s p' W') (k : Only t W W') : Trio s w0 r t u er pr e' p' eu pu W' :=
  ⟨h.ir.only hn.1 k, h', h.iu.only (Ne.symm hn.2.2.1) k, k.keeps h.kp hn.2.2.2.2.1⟩
theorem Trio.u {s : ByteArray} {w0 W W' : World} {r t u pr pt pu p' : Nat} {er et eu e' : Int} (h : Trio s w0 r t u er pr et pt eu pu W) (hn : Apart w0 r t u) (h' : InAt u e' s p' W') (k : Only u W W') : Trio s w0 r t u er pr et pt e' p' W' :=
  ⟨h.ir.only hn.2.1 k, h.it.only hn.2.2.1 k, h', k.keeps h.kp hn.2.2.2.2.2⟩
theorem trio3 {s : ByteArray} {w w2 w3 w4 : World} {r t u : Nat} (h2 : InAt r 0 s 0 w2) (h3 : InAt t 0 s 0 w3) (h4 : InAt u 0 s 0 w4) (k2 : Keeps w w2) (k3 : Keeps w2 w3) (k4 : Keeps w3 w4) : Trio s w r t u 0 0 0 0 0 0 w4 :=
  ⟨h2.keeps (k3.more k4), h3.keeps k4, h4, (k2.more k3).more k4⟩
theorem apart3 {s : ByteArray} {w w1 w2 w3 : World} (k1 : Keeps w w1) (h2 : InAt w1.heap.size 0 s 0 w2) (h3 : InAt w2.heap.size 0 s 0 w3) : Apart w w1.heap.size w2.heap.size w3.heap.size := by
  have o2 := h2.old
  have o3 := h3.old
  have k := k1.size
  unfold Apart
  omega
def ge (e : Int) (z p N : Nat) : Int := if e = 0 then (if p + N ≤ 8 * z then 0 else 10) else e
def gp (e : Int) (z p N : Nat) : Nat := if e = 0 then (if p + N ≤ 8 * z then p + N else p) else p
theorem gp_le {e : Int} {z p N : Nat} (h : p ≤ 8 * z) : gp e z p N ≤ 8 * z := by
  unfold gp
  by_cases h1 : e = 0
  · rw [if_pos h1]
    by_cases h2 : p + N ≤ 8 * z
    · rw [if_pos h2]; exact h2
    · rw [if_neg h2]; exact h
  · rw [if_neg h1]; exact h
theorem ge_two {z A B : Nat} (h : 8 * z < A + B) : ge (ge 0 z 0 A) z (gp 0 z 0 A) B = 10 := by
  unfold ge gp
  rw [if_pos rfl, if_pos rfl]
  by_cases h1 : 0 + A ≤ 8 * z
  · rw [if_pos h1, if_pos rfl, if_pos h1, if_neg (by omega)]
  · rw [if_neg h1, if_neg (by decide)]
theorem ge_three {z A B C : Nat} (h : 8 * z < A + B + C) : ge (ge (ge 0 z 0 A) z (gp 0 z 0 A) B) z (gp (ge 0 z 0 A) z (gp 0 z 0 A) B) C = 10 := by
  by_cases h1 : 8 * z < A + B
  · rw [ge_two h1]; unfold ge; rw [if_neg (by decide)]
  · have e1 : ge 0 z 0 A = 0 := by unfold ge; rw [if_pos rfl, if_pos (by omega)]
    have p1 : gp 0 z 0 A = A := by unfold gp; rw [if_pos rfl, if_pos (by omega)]; omega
    have e2 : ge 0 z A B = 0 := by unfold ge; rw [if_pos rfl, if_pos (by omega)]
    have p2 : gp 0 z A B = A + B := by unfold gp; rw [if_pos rfl, if_pos (by omega)]
    rw [e1, p1, e2, p2]; unfold ge; rw [if_pos rfl, if_neg (by omega)]
theorem get_nat {b : Nat} {e : Int} {s : ByteArray} {p : Nat} {w : World} (h : InAt b e s p w) (N : Nat) (hN : N ≤ 64) (hs : s.size ≤ 1000000) (hp : p ≤ 8 * s.size) :
    Calls Try.prog 20 #[.pointer (some ⟨b, 0, none⟩), .int .i64 (N : Int)] w fun x w' => (∃ v, x = .returned (.int .u64 v)) ∧ InAt b (ge e s.size p N) s (gp e s.size p N) w' ∧ Only b w w' := by
  unfold ge gp
  by_cases h1 : e = 0
  · subst h1
    rw [if_pos rfl, if_pos rfl]
    by_cases h2 : p + N ≤ 8 * s.size
    · rw [if_pos h2, if_pos h2]; exact (get_ok h N hN hs h2).mono fun _ _ hh => ⟨⟨_, hh.1⟩, hh.2⟩
    · rw [if_neg h2, if_neg h2]; exact (get_short h N hN hs hp (by omega)).mono fun _ _ hh => ⟨⟨_, hh.1⟩, hh.2⟩
  · rw [if_neg h1, if_neg h1]; exact (get_bad h N h1).mono fun _ _ hh => ⟨⟨_, hh.1⟩, hh.2⟩
theorem text_nat {b : Nat} {e : Int} {s : ByteArray} {p : Nat} {w : World} (h : InAt b e s p w) (N : Nat) (hN : N ≤ 64) (hs : s.size ≤ 1000000) (hp : p ≤ 8 * s.size) :
    Calls Try.prog 19 #[.pointer (some ⟨b, 0, none⟩), .int .i64 (N : Int)] w fun x w' => (∃ v, x = .returned (.string v)) ∧ (∃ e' p', InAt b e' s p' w') ∧ Only b w w' := by
  by_cases h1 : e = 0
  · subst h1
    by_cases h2 : p + 8 * N ≤ 8 * s.size
    · exact (text_ok h N hs h2).mono fun _ _ hh => ⟨⟨_, hh.1⟩, ⟨_, _, hh.2.1⟩, hh.2.2⟩
    · exact (text_short h N (by omega) hs hp (by omega)).mono fun _ _ hh => ⟨⟨_, hh.1⟩, ⟨_, _, hh.2.1⟩, hh.2.2⟩
  · exact (text_bad h N h1).mono fun _ _ hh => ⟨⟨_, hh.1⟩, ⟨_, _, hh.2.1⟩, hh.2.2⟩
theorem num_two (L : List Bool) (p a b : Nat) (h : p + a + b ≤ L.length) : num ((L.drop p).take (a + b)) = num ((L.drop p).take a) * 2 ^ b + num ((L.drop (p + a)).take b) := by
  rw [List.take_add, num_append, List.drop_drop, List.length_take, List.length_drop, Nat.min_eq_left (by omega), Nat.mul_comm]
theorem num_text {s : ByteArray} {p m : Nat} (h : p + 8 * m ≤ 8 * s.size) : num (((ob (ls (st (nx s p m)))).drop 0).take (m * 8)) = num (((ob (ls s)).drop p).take (m * 8)) := by
  have hl : (((ob (ls s)).drop p).take (8 * m)).length = 8 * m := by rw [List.length_take, List.length_drop, ob_length, ← ls_size]; omega
  have e := take_pack (((ob (ls s)).drop p).take (8 * m))
  rw [hl] at e
  rw [ls_st, List.drop_zero, Nat.mul_comm m 8]
  show num ((ob (pack _)).take (8 * m)) = _
  rw [e]
def dbRel (w : World) (Y b : Nat) (y i : Value) (wr : World) : Prop := ∃ k : Nat, k ≤ b ∧ i = .int .i64 (k : Int) ∧ y = .int .u64 (un (Y * 2 ^ k)) ∧ w = wr
set_option maxHeartbeats 16000000 in
theorem core2 (s : ByteArray) (A a b : Nat) (w : World) (hs : s.size ≤ 100) (hA64 : A ≤ 64) (hab : a + b ≤ 64) (hT : 8 * s.size < A + a + b) :
    Calls Try.prog 6 #[.string s, .int .i64 (A : Int), .agg #[.int .i64 (a : Int), .int .i64 (b : Int)]] w fun e w' => e = .returned (.bool true) ∧ Below w.heap.size w w' := by
  obtain ⟨c, hc⟩ : ∃ c, a + b = c := ⟨_, rfl⟩
  obtain ⟨m, hm⟩ : ∃ m, a / 8 = m := ⟨_, rfl⟩
  have eab : (a : Int) + (b : Int) = (c : Int) := by omega
  have e8 : (a : Int) / 8 = (m : Int) := by omega
  have hs1 : s.size ≤ 1000000 := by omega
  have ha64 : a ≤ 64 := by omega
  have hb64 : b ≤ 64 := by omega
  have hc64 : c ≤ 64 := by omega
  have hm64 : m ≤ 64 := by omega
  have n1 : ¬ ((100 : Int) < (s.size : Int)) := by omega
  have n2 : ¬ ((A : Int) < 0) := by omega
  have n3 : ¬ ((64 : Int) < (A : Int)) := by omega
  have n4 : ¬ ((a : Int) < 0) := by omega
  have n5 : ¬ ((b : Int) < 0) := by omega
  have n6 : ¬ ((64 : Int) < (a : Int)) := by omega
  have n7 : ¬ (64 - (a : Int) < (b : Int)) := by omega
  have hk1 := Keeps.alloc (Keeps.refl w) (.cells #[.int .i64 (a : Int), .int .i64 (b : Int)] 50)
  obtain ⟨w1, hw1⟩ : ∃ w1, w.alloc (.cells #[.int .i64 (a : Int), .int .i64 (b : Int)] 50) = w1 := ⟨_, rfl⟩
  have c0 : w1.cell? ⟨w.heap.size, 0, none⟩ = some (.int .i64 (a : Int)) := by rw [← hw1, World.cell?_alloc_new]; rfl
  have c1 : w1.cell? ⟨w.heap.size, 1, none⟩ = some (.int .i64 (b : Int)) := by rw [← hw1, World.cell?_alloc_new]; rfl
  rw [hw1] at hk1
  have HK1 := Lib.hid hk1
  clear hk1
  have hTI : 8 * (s.size : Int) < (A : Int) + (a : Int) + (b : Int) := by omega
  have HG2 := Lib.hid (show ge (ge 0 s.size 0 A) s.size (gp 0 s.size 0 A) c = 10 from ge_two (by omega))
  have HG3 := Lib.hid (show ge (ge (ge 0 s.size 0 A) s.size (gp 0 s.size 0 A) a) s.size (gp (ge 0 s.size 0 A) s.size (gp 0 s.size 0 A) a) b = 10 from ge_three hT)
  clear hc hm hT
  go_enter Try.func6, Try.ntmps6
  go_wp2_with (first | (go_at_call 16; have gd := HA3.out; refine (read_any s w3).mono ?_; rintro _ w4 ⟨rfl, hi4, kk4⟩; have HT4 := Lib.hid (trio3 HA2.out HA3.out hi4 HK2.out HK3.out kk4); have HNE := Lib.hid (apart3 HK1.out HA2.out HA3.out); clear hi4 kk4 gd) | (go_at_call 16; have gd := HA2.out; refine (read_any s w2).mono ?_; rintro _ w3 ⟨rfl, hi3, kk3⟩; have HA3 := Lib.hid hi3; have HK3 := Lib.hid kk3; clear hi3 kk3 gd) | (go_at_call 16; refine (read_any s w1).mono ?_; rintro _ w2 ⟨rfl, hi2, kk2⟩; have HA2 := Lib.hid hi2; have HK2 := Lib.hid (HK1.out.more kk2); clear hi2 kk2) | (go_at_call 20; have gd := HT9.out; refine (get_nat gd.it b hb64 hs1 (gp_le (gp_le (Nat.zero_le _)))).mono ?_; rintro _ w10 ⟨⟨v10, rfl⟩, hi, kk⟩; have HT10 := Lib.hid (gd.t HNE.out hi kk); clear hi kk gd) | (go_at_call 20; have gd := HT8.out; refine (get_nat gd.it a ha64 hs1 (gp_le (Nat.zero_le _))).mono ?_; rintro _ w9 ⟨⟨v9, rfl⟩, hi, kk⟩; have HT9 := Lib.hid (gd.t HNE.out hi kk); clear hi kk gd) | (go_at_call 20; have gd := HT7.out; refine (get_nat gd.ir c hc64 hs1 (gp_le (Nat.zero_le _))).mono ?_; rintro _ w8 ⟨⟨v8, rfl⟩, hi, kk⟩; have HT8 := Lib.hid (gd.r HNE.out hi kk); clear hi kk gd) | (go_at_call 20; have gd := HT6.out; refine (get_nat gd.iu A hA64 hs1 (Nat.zero_le _)).mono ?_; rintro _ w7 ⟨⟨v7, rfl⟩, hi, kk⟩; have HT7 := Lib.hid (gd.u HNE.out hi kk); clear hi kk gd) | (go_at_call 20; have gd := HT5.out; refine (get_nat gd.it A hA64 hs1 (Nat.zero_le _)).mono ?_; rintro _ w6 ⟨⟨v6, rfl⟩, hi, kk⟩; have HT6 := Lib.hid (gd.t HNE.out hi kk); clear hi kk gd) | (go_at_call 20; have gd := HT4.out; refine (get_nat gd.ir A hA64 hs1 (Nat.zero_le _)).mono ?_; rintro _ w5 ⟨⟨v5, rfl⟩, hi, kk⟩; have HT5 := Lib.hid (gd.r HNE.out hi kk); clear hi kk gd) | (go_at_call 19; have gd := HT10.out; refine (text_nat gd.iu m hm64 hs1 (gp_le (Nat.zero_le _))).mono ?_; rintro _ w11 ⟨⟨v11, rfl⟩, ⟨e11, p11, hi⟩, kk⟩; have HT11 := Lib.hid (gd.u HNE.out hi kk); clear hi kk gd) | (go_at_call 23; first | (have gd := HDN.out; refine (rerr_any HT11.out.it).mono ?_; rintro _ _ ⟨rfl, rfl⟩; rw [HG3.out]) | (refine (rerr_any HT11.out.ir).mono ?_; rintro _ _ ⟨rfl, rfl⟩; rw [HG2.out]; have HDN := Lib.hid True.intro)) | (go_at_call 10; refine (awake6_any _).mono ?_; rintro _ w15 ⟨rfl, k15⟩))
  go_ret
  exact ⟨rfl, HT11.out.kp.more k15⟩
set_option maxHeartbeats 16000000 in
theorem core1 (s : ByteArray) (A a b : Nat) (w : World) (hs : s.size ≤ 100) (hA64 : A ≤ 64) (hab : a + b ≤ 64) (hT : A + a + b ≤ 8 * s.size) :
    Calls Try.prog 6 #[.string s, .int .i64 (A : Int), .agg #[.int .i64 (a : Int), .int .i64 (b : Int)]] w fun e w' => e = .returned (.bool true) ∧ Below w.heap.size w w' := by
  obtain ⟨c, hc⟩ : ∃ c, a + b = c := ⟨_, rfl⟩
  obtain ⟨m, hm⟩ : ∃ m, a / 8 = m := ⟨_, rfl⟩
  have eab : (a : Int) + (b : Int) = (c : Int) := by omega
  have e8 : (a : Int) / 8 = (m : Int) := by omega
  have hs1 : s.size ≤ 1000000 := by omega
  have ha64 : a ≤ 64 := by omega
  have hb64 : b ≤ 64 := by omega
  have hc64 : c ≤ 64 := by omega
  have hm64 : m ≤ 64 := by omega
  have n1 : ¬ ((100 : Int) < (s.size : Int)) := by omega
  have n2 : ¬ ((A : Int) < 0) := by omega
  have n3 : ¬ ((64 : Int) < (A : Int)) := by omega
  have n4 : ¬ ((a : Int) < 0) := by omega
  have n5 : ¬ ((b : Int) < 0) := by omega
  have n6 : ¬ ((64 : Int) < (a : Int)) := by omega
  have n7 : ¬ (64 - (a : Int) < (b : Int)) := by omega
  have hk1 := Keeps.alloc (Keeps.refl w) (.cells #[.int .i64 (a : Int), .int .i64 (b : Int)] 50)
  obtain ⟨w1, hw1⟩ : ∃ w1, w.alloc (.cells #[.int .i64 (a : Int), .int .i64 (b : Int)] 50) = w1 := ⟨_, rfl⟩
  have c0 : w1.cell? ⟨w.heap.size, 0, none⟩ = some (.int .i64 (a : Int)) := by rw [← hw1, World.cell?_alloc_new]; rfl
  have c1 : w1.cell? ⟨w.heap.size, 1, none⟩ = some (.int .i64 (b : Int)) := by rw [← hw1, World.cell?_alloc_new]; rfl
  rw [hw1] at hk1
  have HK1 := Lib.hid hk1
  clear hk1
  have hTI : ¬ (8 * (s.size : Int) < (A : Int) + (a : Int) + (b : Int)) := by omega
  have hA0 : 0 + A ≤ 8 * s.size := by omega
  have hAa : A + a ≤ 8 * s.size := by omega
  have hAc : A + c ≤ 8 * s.size := by omega
  have hAab2 : A + a + b ≤ 8 * s.size := hT
  have hAm : A + 8 * m ≤ 8 * s.size := by omega
  have hcc := hc
  clear hm hT
  go_enter Try.func6, Try.ntmps6
  go_wp2_with (first | (go_at_call 16; have gd := HA3.out; refine (read_any s w3).mono ?_; rintro _ w4 ⟨rfl, hi4, kk4⟩; have HT4 := Lib.hid (trio3 HA2.out HA3.out hi4 HK2.out HK3.out kk4); have HNE := Lib.hid (apart3 HK1.out HA2.out HA3.out); clear hi4 kk4 gd) | (go_at_call 16; have gd := HA2.out; refine (read_any s w2).mono ?_; rintro _ w3 ⟨rfl, hi3, kk3⟩; have HA3 := Lib.hid hi3; have HK3 := Lib.hid kk3; clear hi3 kk3 gd) | (go_at_call 16; refine (read_any s w1).mono ?_; rintro _ w2 ⟨rfl, hi2, kk2⟩; have HA2 := Lib.hid hi2; have HK2 := Lib.hid (HK1.out.more kk2); clear hi2 kk2) | (go_at_call 20; have gd := HT9.out; refine (get_ok gd.it b hb64 hs1 hAab2).mono ?_; rintro _ w10 ⟨rfl, hi, kk⟩; have HT10 := Lib.hid (gd.t HNE.out hi kk); clear hi kk gd) | (go_at_call 20; have gd := HT8.out; refine (get_ok gd.it a ha64 hs1 hAa).mono ?_; rintro _ w9 ⟨rfl, hi, kk⟩; have HT9 := Lib.hid (gd.t HNE.out hi kk); clear hi kk gd) | (go_at_call 20; have gd := HT7.out; refine (get_ok gd.ir c hc64 hs1 hAc).mono ?_; rintro _ w8 ⟨rfl, hi, kk⟩; have HT8 := Lib.hid (gd.r HNE.out hi kk); clear hi kk gd) | (go_at_call 20; have gd := HT6.out; refine (get_ok gd.iu A hA64 hs1 hA0).mono ?_; rintro _ w7 ⟨rfl, hi, kk⟩; rw [Nat.zero_add] at hi; have HT7 := Lib.hid (gd.u HNE.out hi kk); clear hi kk gd) | (go_at_call 20; have gd := HT5.out; refine (get_ok gd.it A hA64 hs1 hA0).mono ?_; rintro _ w6 ⟨rfl, hi, kk⟩; rw [Nat.zero_add] at hi; have HT6 := Lib.hid (gd.t HNE.out hi kk); clear hi kk gd) | (go_at_call 20; have gd := HT4.out; refine (get_ok gd.ir A hA64 hs1 hA0).mono ?_; rintro _ w5 ⟨rfl, hi, kk⟩; rw [Nat.zero_add] at hi; have HT5 := Lib.hid (gd.r HNE.out hi kk); clear hi kk gd) | (go_at_call 19; have gd := HT10.out; refine (text_ok gd.iu m hs1 hAm).mono ?_; rintro _ w11 ⟨rfl, hi, kk⟩; have HT11 := Lib.hid (gd.u HNE.out hi kk); clear hi kk gd))
  have HXY := Lib.hid (num_two (ob (ls s)) A a b (by rw [ob_length, ← ls_size]; exact hAab2))
  rw [hcc] at HXY
  have HYL := Lib.hid (show num (((ob (ls s)).drop A).take a) < 2 ^ a from Nat.lt_of_lt_of_le (num_lt _) (Nat.pow_le_pow_right (by decide) (by rw [List.length_take]; omega)))
  have HZL := Lib.hid (show num (((ob (ls s)).drop A).take c) < 2 ^ 64 from Nat.lt_of_lt_of_le (num_lt _) (Nat.pow_le_pow_right (by decide) (by rw [List.length_take]; omega)))
  have HNT := Lib.hid (num_text (s := s) (p := A) (m := m) hAm)
  have HTS := Lib.hid (show (st (nx s A m)).size = m by rw [st_size, nx_length hAm])
  obtain ⟨X, hX⟩ : ∃ X, num (((ob (ls s)).drop A).take c) = X := ⟨_, rfl⟩
  obtain ⟨Y, hY⟩ : ∃ Y, num (((ob (ls s)).drop A).take a) = Y := ⟨_, rfl⟩
  obtain ⟨Z, hZ⟩ : ∃ Z, num (((ob (ls s)).drop (A + a)).take b) = Z := ⟨_, rfl⟩
  obtain ⟨TT, hTT⟩ : ∃ TT, st (nx s A m) = TT := ⟨_, rfl⟩
  rw [hX, hY, hZ] at HXY
  rw [hY] at HYL
  rw [hX] at HZL
  rw [hTT] at HNT HTS
  rw [hX, hY, hZ, hTT]
  obtain ⟨m8, hm8⟩ : ∃ m8, m * 8 = m8 := ⟨_, rfl⟩
  rw [hm8] at HNT
  obtain ⟨V, hV⟩ : ∃ V, un (num (((ob (ls s)).drop A).take m8)) = V := ⟨_, rfl⟩
  have HV9 := Lib.hid hV
  have HV7 := Lib.hid (show un (num (((ob (ls TT)).drop 0).take m8)) = V by rw [HNT.out]; exact hV)
  have e88 : (m : Int) * 8 = (m8 : Int) := by omega
  have hm864 : m8 ≤ 64 := by omega
  have hAm8 : A + m8 ≤ 8 * s.size := by omega
  have htx1 : TT.size ≤ 1000000 := by rw [HTS.out]; omega
  have htx2 : 0 + m8 ≤ 8 * TT.size := by rw [HTS.out]; omega
  have hts : (TT.size : Int) = (m : Int) := by rw [HTS.out]
  clear hX hY hZ hTT hV hm8 hc hcc
  go_loopw [13, 16] (fun y i wr => dbRel w11 Y b y i wr) (fun _ i _ => b - (intOf i).toNat)
  case atStart => exact ⟨0, by omega, rfl, by rw [Nat.pow_zero, Nat.mul_one], rfl⟩
  case round =>
    obtain ⟨k, hk, rfl, rfl, rfl⟩ := hrel
    by_cases hlt : k < b
    · have hkI : (k : Int) < (b : Int) := by omega
      have e2 : IntKind.u64.wrap (2 * un (Y * 2 ^ k)) = un (Y * 2 ^ (k + 1)) := by
        have h1 : Y * 2 ^ (k + 1) < 2 ^ 64 := Nat.lt_of_lt_of_le (Nat.mul_lt_mul_of_pos_right HYL.out (Nat.two_pow_pos _)) (by rw [← Nat.pow_add]; exact Nat.pow_le_pow_right (by decide) (by omega))
        have h2 : Y * 2 ^ (k + 1) = 2 * (Y * 2 ^ k) := by rw [Nat.pow_succ, ← Nat.mul_assoc, Nat.mul_comm]
        rw [h2] at h1 ⊢
        unfold un; rw [IntKind.wrap_u64]; omega
      go_wp2
      go_roundw
      case rel => exact ⟨k + 1, by omega, by go_num, rfl, rfl⟩
      case measure => simp [intOf]; omega
    · obtain rfl : b = k := by omega
      have hkI : ¬ ((b : Int) < (b : Int)) := by omega
      have e3 : IntKind.u64.wrap (un (Y * 2 ^ b) + un Z) = un X := by
        have := HXY.out
        have := HZL.out
        unfold un; rw [IntKind.wrap_u64]; omega
      go_wp2_with (first | (go_at_call 20; have gd := HQ15.out; refine (get_ok gd m8 hm864 hs1 hAm8).mono ?_; rintro _ w16 ⟨rfl, hi, kk⟩; rw [HV9.out]; have HK16 := Lib.hid (kk.kept HK15.out HSZ.out); clear hi kk gd) | (go_at_call 20; have gd := HQ14.out; refine (get_ok gd A hA64 hs1 hA0).mono ?_; rintro _ w15 ⟨rfl, hi, kk⟩; rw [Nat.zero_add] at hi; have HQ15 := Lib.hid hi; have HK15 := Lib.hid (kk.kept HK14.out HSZ.out); clear hi kk gd) | (go_at_call 16; have gd := HV13.out; refine (read_any s w13).mono ?_; rintro _ w14 ⟨rfl, hi, kk⟩; have HQ14 := Lib.hid hi; have HK14 := Lib.hid (HK13.out.more kk); have HSZ := Lib.hid HK13.out.size; clear hi kk gd) | (go_at_call 20; have gd := HV12.out; refine (get_ok gd m8 hm864 htx1 htx2).mono ?_; rintro _ w13 ⟨rfl, hi, kk⟩; rw [HV7.out]; have HV13 := Lib.hid hi; have HK13 := Lib.hid (kk.kept HK12.out (Nat.le_refl _)); clear hi kk gd) | (go_at_call 16; refine (read_any TT w11).mono ?_; rintro _ w12 ⟨rfl, hi, kk⟩; have HV12 := Lib.hid hi; have HK12 := Lib.hid kk; clear hi kk) | (go_at_call 23; have gd := HE2.out; refine (rerr_any (HT11.out.iu.keeps HK15.out)).mono ?_; rintro _ _ ⟨rfl, rfl⟩; clear gd) | (go_at_call 23; have gd := HE1.out; refine (rerr_any (HT11.out.it.keeps HK15.out)).mono ?_; rintro _ _ ⟨rfl, rfl⟩; have HE2 := Lib.hid True.intro; clear gd) | (go_at_call 23; refine (rerr_any (HT11.out.ir.keeps HK15.out)).mono ?_; rintro _ _ ⟨rfl, rfl⟩; have HE1 := Lib.hid True.intro) | (go_at_call 10; refine (awake6_any _).mono ?_; rintro _ w17 ⟨rfl, k17⟩))
      go_ret
      exact ⟨rfl, (HT11.out.kp.more HK16.out).more k17⟩
theorem off (s : ByteArray) (A a b : Int) (w : World) (h : 100 < (s.size : Int) ∨ (¬ (100 < (s.size : Int)) ∧ (A < 0 ∨ (¬ A < 0 ∧ (64 < A ∨ (¬ 64 < A ∧ (a < 0 ∨ (¬ a < 0 ∧ (b < 0 ∨ (¬ b < 0 ∧ (64 < a ∨ (¬ 64 < a ∧ 64 - a < b)))))))))))) :
    Calls Try.prog 6 #[.string s, .int .i64 A, .agg #[.int .i64 a, .int .i64 b]] w fun e w' => e = .returned (.bool true) ∧ Below w.heap.size w w' := by
  go_enter Try.func6, Try.ntmps6
  rcases h with h | ⟨h1, h | ⟨h2, h | ⟨h3, h | ⟨h4, h | ⟨h5, h | ⟨h6, h⟩⟩⟩⟩⟩⟩
  all_goals go_wp2_with (go_at_call 10; refine (awake6_any _).mono ?_; rintro _ w17 ⟨rfl, k17⟩)
  all_goals go_ret
  all_goals exact ⟨rfl, ((Keeps.refl w).alloc _).more k17⟩
theorem walk (s : ByteArray) (hs : s.size ≤ maxLen) (A : Int) (wA : (Lit.int .i64 A).wf = true) (xs : List Int) (hx : xs.length = 2) (hxw : ∀ x ∈ xs, (Lit.int .i64 x).wf = true) (w : World) :
    Calls Try.prog 6 #[.string s, .int .i64 A, .agg (xs.map (.int .i64)).toArray] w fun e w' => e = .returned (.bool true) ∧ Below w.heap.size w w' := by
  match xs, hx with
  | [a, b], _ =>
    show Calls Try.prog 6 #[.string s, .int .i64 A, .agg #[.int .i64 a, .int .i64 b]] w fun e w' => e = .returned (.bool true) ∧ Below w.heap.size w w'
    by_cases h1 : 100 < (s.size : Int)
    · exact off s A a b w (.inl h1)
    by_cases h2 : A < 0
    · exact off s A a b w (.inr ⟨h1, .inl h2⟩)
    by_cases h3 : 64 < A
    · exact off s A a b w (.inr ⟨h1, .inr ⟨h2, .inl h3⟩⟩)
    by_cases h4 : a < 0
    · exact off s A a b w (.inr ⟨h1, .inr ⟨h2, .inr ⟨h3, .inl h4⟩⟩⟩)
    by_cases h5 : b < 0
    · exact off s A a b w (.inr ⟨h1, .inr ⟨h2, .inr ⟨h3, .inr ⟨h4, .inl h5⟩⟩⟩⟩)
    by_cases h6 : 64 < a
    · exact off s A a b w (.inr ⟨h1, .inr ⟨h2, .inr ⟨h3, .inr ⟨h4, .inr ⟨h5, .inl h6⟩⟩⟩⟩⟩)
    by_cases h7 : 64 - a < b
    · exact off s A a b w (.inr ⟨h1, .inr ⟨h2, .inr ⟨h3, .inr ⟨h4, .inr ⟨h5, .inr ⟨h6, h7⟩⟩⟩⟩⟩⟩)
    obtain ⟨A', rfl⟩ : ∃ N : Nat, A = (N : Int) := ⟨A.toNat, by omega⟩
    obtain ⟨a', rfl⟩ : ∃ N : Nat, a = (N : Int) := ⟨a.toNat, by omega⟩
    obtain ⟨b', rfl⟩ : ∃ N : Nat, b = (N : Int) := ⟨b.toNat, by omega⟩
    by_cases hT : A' + a' + b' ≤ 8 * s.size
    · exact core1 s A' a' b' w (by omega) (by omega) (by omega) hT
    · exact core2 s A' a' b' w (by omega) (by omega) (by omega) (by omega)

theorem own : ownKnob Try.prog.godebug = none := by kernel_rfl
theorem laidOut : laidOutB Try.prog = true := by kernel_rfl
set_option maxRecDepth 100000 in
theorem lifted (os : Os) (started : os.Started) (H : Type) (enc : TypeId × Value → H) :
    ReturnsInHanded {} Try.checked os 6 .any (Rows.bitsPartsSpec.pre6 enc Try.prog Try.f6 Rows.bitsPartsRow.domain false) (Rows.bitsPartsSpec.post enc Try.prog Try.f6 false true false false) := by
  refine returnsInHanded_of_change (C := Try.checked) own started (by kernel_rfl) Try.func6
    (ChangeSpec.witness6 (enc := enc) (C := Try.checked) false ⟨#[], #[.string ByteArray.empty, .int .i64 0, .agg #[.int .i64 0, .int .i64 0]], []⟩ 8 (by kernel_rfl) (by kernel_rfl) (by kernel_rfl) (by kernel_rfl)) ?_
  intro W base args ds gs before hval0 hW hcnd _
  have hval : ∀ (j : Nat) t v, Try.f6.params[j]? = some t → args[j]? = some v → Value.okWide Try.prog W .any base t v := hval0
  have hW' := hW
  obtain ⟨p, q, hA0, hV, rfl, hfz, hnd⟩ := hW
  have hA : DataW.TrodAll enc Try.prog W 0 (fun _ => true) true Try.f6.params.toList args.toList ds p := hA0
  rw [Try.params6] at hA hval
  obtain ⟨v0, vs0, d0, ds0, p0, q0, hargs, rfl, rfl, h0, r0⟩ := trodAll_cons hA
  obtain ⟨v1, vs1, d1, ds1, p1, q1, rfl, rfl, rfl, h1, r1⟩ := trodAll_cons r0
  obtain ⟨v2, vs2, d2, ds2, p2, q2, rfl, rfl, rfl, h2, r2⟩ := trodAll_cons r1
  obtain ⟨rfl, rfl, rfl⟩ := trodAll_nil r2
  obtain rfl : args = #[v0, v1, v2] := by cases args; simp_all
  obtain ⟨rfl, rfl⟩ := trodVars_none hV
  obtain ⟨a0, rfl, rfl, rfl, w0⟩ := open_string Try.underlying9 (hval 0 9 v0 rfl rfl) h0
  obtain ⟨a1, rfl, rfl, rfl, w1⟩ := open_int Try.underlying3 (hval 1 3 v1 rfl rfl) h1
  have k2 := h2
  have lt2 : ∀ x ∈ p2, x.block < W.heap.size := by obtain ⟨m, hm⟩ := k2; exact DataW.trod_lt m _ _ _ hm
  obtain ⟨x2, n2, rfl, wx2⟩ := open_arr Try.underlying50 Try.underlying3 (by kernel_rfl) (by kernel_rfl) (hval 2 50 v2 rfl rfl) h2
  clear hA0 hval0
  refine (walk a0 w0 a1 w1 x2 n2 wx2 W).mono fun e W' ⟨he, bel⟩ => ?_
  subst he
  exact ⟨_, rfl, _, _, _, [], _, [], hW', trodAll_mk1 (shut_bool Try.underlying4 _), (trodAll_cons_mk (shut_string Try.underlying9 w0) (trodAll_cons_mk (shut_int Try.underlying3 w1) (trodAll_cons_mk (Below.trod laidOut (by kernel_rfl) (of_decide_eq_true (by kernel_rfl)) k2 bel lt2) trodAll_mk0))), rfl, bel.frame _, fun h => by cases h⟩

theorem over : Rows.bitsPartsRow.holds Try.pinned (OpenSpec.ofChange Rows.bitsPartsSpec) :=
  OpenClaim.holds_of_wide 6 Try.f6 rfl rfl rfl rfl rfl rfl rfl ⟨rfl, rfl, rfl, rfl, rfl⟩ rfl rfl rfl rfl rfl (by kernel_rfl) Try.func6 (by kernel_rfl)
    (of_decide_eq_true (by kernel_rfl)) (by unfold Func.isWrapper; first | (rw [if_pos (by decide +kernel)]; kernel_rfl) | (rw [if_neg (by decide +kernel)]; exact ⟨rfl, rfl⟩))
    (fun os started H enc _ => lifted os started H enc)

theorem proved : Rows.BitsPartsSaid := over
#print axioms proved
end Go.Proofs.Ytfkadmcndjohbaa.bitsParts
