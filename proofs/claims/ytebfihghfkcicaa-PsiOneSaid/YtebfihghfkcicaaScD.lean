/-
  What read and Decode of package section answer, and the document's Decode. For texts of up to a million bytes. The memory that was there stays.
-/
import Derived.StillTailTactics
import Derived.Test.YtebfihghfkcicaaScV
import Derived.Test.YtebfihghfkcicaaBase
namespace Go.Proofs.Ytebfihghfkcicaa
open Go.RowKit Gf Sct Bit
set_option maxRecDepth 100000
/-- A section and an error are answered. -/
def RdPost (w0 : World) (r : Sec × Int) (e : Ending) (w' : World) : Prop := e = .returned (.tuple #[secV r.1, .int .i64 r.2]) ∧ Keeps w0 w'
theorem RdPost.of {w0 W : World} {r : Sec × Int} {s : Sec} {n : Int} (e : r = (s, n)) (k : Keeps w0 W) : RdPost w0 r (.returned (.tuple #[secV s, .int .i64 n])) W := by rw [e]; exact ⟨rfl, k⟩
theorem lvS {w : World} {b : Nat} {s : Sec} (h : SecAt b s w) : (loadVar 65 ⟨b, 0, none⟩).run Try.prog w = .ok (secV s) w := run_loadVar_mid (P := Try.prog) w b 0 _ (secC s) _ h.range Try.underlying65 rfl (by kernel_rfl)
/-- The end of a function that answers a section (in a cell) and an error. -/
theorem sec_ret {W : World} {a : Act} {fn : Func} {T : TypeId} {b : Nat} {s : Sec} {n : Int} {Q : Ending → World → Prop} (hres : fn.results = #[.cell 2 T, .tmp 3])
    (hl : (loadVar T ⟨b, 0, none⟩).run Try.prog W = .ok (secV s) W) (h2 : a.tmps.getD 2 undef = .pointer (some ⟨b, 0, none⟩)) (h3 : a.tmps.getD 3 undef = .int .i64 n) (hd : a.defers = [])
    (h : Q (.returned (.tuple #[secV s, .int .i64 n])) W) : bodyPost Try.prog fn Q Exit.ret a W := by
  have h2' : a.tmps[2]?.getD undef = .pointer (some ⟨b, 0, none⟩) := by rw [← h2, Array.getD_eq_getD_getElem?]
  have h3' : a.tmps[3]?.getD undef = .int .i64 n := by rw [← h3, Array.getD_eq_getD_getElem?]
  exact bodyPost_ret (v := .tuple #[secV s, .int .i64 n]) (by simp only [results, hres]; simp [Result.andThen, asAddr, h2', h3', hl]) hd h
/-- While a section is read: the reader, what is built, what is answered. -/
structure Rdg (w0 : World) (rb b2 b4 : Nat) (s : ByteArray) (p : Nat) (S : Sec) (W : World) : Prop where
  i : InAt rb 0 s p W
  a : SecAt b4 S W
  z : SecAt b2 zs W
  k : Keeps w0 W
  n1 : b4 ≠ rb
  n2 : b2 ≠ rb
  n3 : b2 ≠ b4
  m1 : w0.heap.size ≤ rb
  m2 : w0.heap.size ≤ b2
  m4 : w0.heap.size ≤ b4
section
variable {w0 W W' : World} {rb b2 b4 p q : Nat} {s : ByteArray} {S : Sec}
theorem Rdg.got (h : Rdg w0 rb b2 b4 s p S W) (i : InAt rb 0 s q W') (o : Only rb W W') : Rdg w0 rb b2 b4 s q S W' :=
  ⟨i, h.a.only h.n1 o, h.z.only h.n2 o, o.keeps h.k h.m1, h.n1, h.n2, h.n3, h.m1, h.m2, h.m4⟩
theorem Rdg.wrote (h : Rdg w0 rb b2 b4 s p S W) {S' : Sec} (o : Only b4 W W') (a : SecAt b4 S' W') : Rdg w0 rb b2 b4 s p S' W' :=
  ⟨h.i.only (Ne.symm h.n1) o, a, h.z.only h.n3 o, o.keeps h.k h.m4, h.n1, h.n2, h.n3, h.m1, h.m2, h.m4⟩
theorem Rdg.eqv (h : Rdg w0 rb b2 b4 s p S W) (e : Eqv W W') : Rdg w0 rb b2 b4 s p S W' := h.got (h.i.eqv e) (Only.eqv e)
theorem Rdg.set0 (h : Rdg w0 rb b2 b4 s p S W) (x : Int) : Rdg w0 rb b2 b4 s p { S with tb := x } (W.setCell ⟨b4, 0, none⟩ (.int .i64 x)) := h.wrote (Only.setCell W ⟨b4, 0, none⟩ _) (h.a.set0 x)
theorem Rdg.set1 (h : Rdg w0 rb b2 b4 s p S W) (x : Bool) : Rdg w0 rb b2 b4 s p { S with pv := x } (W.setCell ⟨b4, 1, none⟩ (.bool x)) := h.wrote (Only.setCell W ⟨b4, 1, none⟩ _) (h.a.set1 x)
theorem Rdg.set2 (h : Rdg w0 rb b2 b4 s p S W) (x : Int) : Rdg w0 rb b2 b4 s p { S with ex := x } (W.setCell ⟨b4, 2, none⟩ (.int .i64 x)) := h.wrote (Only.setCell W ⟨b4, 2, none⟩ _) (h.a.set2 x)
theorem Rdg.set3 (h : Rdg w0 rb b2 b4 s p S W) (x : Int) : Rdg w0 rb b2 b4 s p { S with ver := x } (W.setCell ⟨b4, 3, none⟩ (.int .i64 x)) := h.wrote (Only.setCell W ⟨b4, 3, none⟩ _) (h.a.set3 x)
theorem Rdg.set4 (h : Rdg w0 rb b2 b4 s p S W) (x : Bool) : Rdg w0 rb b2 b4 s p { S with nw := x } (W.setCell ⟨b4, 4, none⟩ (.bool x)) := h.wrote (Only.setCell W ⟨b4, 4, none⟩ _) (h.a.set4 x)
theorem Rdg.set5 (h : Rdg w0 rb b2 b4 s p S W) (x : Int) : Rdg w0 rb b2 b4 s p { S with num := x } (W.setCell ⟨b4, 5, none⟩ (.int .i64 x)) := h.wrote (Only.setCell W ⟨b4, 5, none⟩ _) (h.a.set5 x)
theorem Rdg.set6 (h : Rdg w0 rb b2 b4 s p S W) (x : Int) : Rdg w0 rb b2 b4 s p { S with la := x } (W.setCell ⟨b4, 6, none⟩ (.int .i64 x)) := h.wrote (Only.setCell W ⟨b4, 6, none⟩ _) (h.a.set6 x)
theorem Rdg.set7 (h : Rdg w0 rb b2 b4 s p S W) (x : ByteArray) : Rdg w0 rb b2 b4 s p { S with body := x } (W.setCell ⟨b4, 7, none⟩ (.string x)) := h.wrote (Only.setCell W ⟨b4, 7, none⟩ _) (h.a.set7 x)
/-- The result's cell is written: at the end. -/
theorem Rdg.ends (h : Rdg w0 rb b2 b4 s p S W) (t : Sec) : SecAt b2 t (W.setCells b2 0 (secC t)) ∧ Keeps w0 (W.setCells b2 0 (secC t)) :=
  ⟨h.z.store t, (only_setCells b2 (secC t) 0 W).keeps h.k h.m2⟩
/-- Get, in this state. -/
theorem Rdg.get (h : Rdg w0 rb b2 b4 s p S W) (N : Nat) {v : Int} (hv : un (num (((ob (ls s)).drop p).take N)) = v) (hq : p + N = q) (hN : N ≤ 64) (hs : s.size ≤ 1000000) (hp : p + N ≤ 8 * s.size) :
    Calls Try.prog 45 #[.pointer (some ⟨rb, 0, none⟩), .int .i64 (N : Int)] W fun x w' => x = .returned (.int .u64 v) ∧ Rdg w0 rb b2 b4 s q S w' :=
  (get_at h.i N hv hq hN hs hp).mono fun _ _ hh => ⟨hh.1, h.got hh.2.1 hh.2.2⟩
end
theorem left_at {w0 W : World} {rb b2 b4 p : Nat} {s : ByteArray} {S : Sec} (h : Rdg w0 rb b2 b4 s p S W) {L : Int} (hL : 8 * (s.size : Int) - (p : Int) = L) (hs : s.size ≤ 1000000) (hp : p ≤ 8 * s.size) :
    Calls Try.prog 47 #[.pointer (some ⟨rb, 0, none⟩)] W fun x w' => x = .returned (.int .i64 L) ∧ Rdg w0 rb b2 b4 s p S w' :=
  (left_any h.i hs hp).mono fun _ _ hh => ⟨by rw [hh.1, hL], h.eqv hh.2⟩
theorem text_at {w0 W : World} {rb b2 b4 p q : Nat} {s B : ByteArray} {S : Sec} (h : Rdg w0 rb b2 b4 s p S W) (N : Nat) (hB : st (nx s p N) = B) (hq : p + 8 * N = q) (hs : s.size ≤ 1000000) (hp : p + 8 * N ≤ 8 * s.size) :
    Calls Try.prog 46 #[.pointer (some ⟨rb, 0, none⟩), .int .i64 (N : Int)] W fun x w' => x = .returned (.string B) ∧ Rdg w0 rb b2 b4 s q S w' := by
  have := text_ok h.i N hs hp
  rw [hB, hq] at this
  exact this.mono fun _ _ hh => ⟨hh.1, h.got hh.2.1 hh.2.2⟩
theorem Rdg.start {w0 w wA w2 : World} (hk : Keeps w0 w) {b : Nat} {s : ByteArray} (hb : w.heap.size = b) (hA : (w.alloc (.cells #[.int .i64 0, .bool false, .int .i64 0, .int .i64 0, .bool false, .int .i64 0, .int .i64 0, .string ⟨#[]⟩] 65)).alloc (.cells #[.int .i64 0, .bool false, .int .i64 0, .int .i64 0, .bool false, .int .i64 0, .int .i64 0, .string ⟨#[]⟩] 65) = wA)
    (i : InAt (b + 2) 0 s 0 w2) (k : Keeps wA w2) : Rdg w0 (b + 2) b (b + 1) s 0 zs w2 := by
  subst hb
  subst hA
  have h1 := SecAt.made w zs 65
  have h2 := SecAt.made (w.alloc (.cells #[.int .i64 0, .bool false, .int .i64 0, .int .i64 0, .bool false, .int .i64 0, .int .i64 0, .string ⟨#[]⟩] 65)) zs 65
  rw [World.size_alloc] at h2
  have hz := Below.size hk
  exact ⟨i, h2.keeps k, (h1.keeps ((Keeps.refl _).alloc _)).keeps k, ((hk.alloc _).alloc _).trans k, by omega, by omega, by omega, by omega, by omega, by omega⟩
theorem sc_eta {m : List UInt8} {x0 x2 x5 x7 x8 x10 x11 : Int} {B : ByteArray} (e0 : x0 = ((c m 0 : Nat) : Int)) (e2 : x2 = ((c m 1 / 64 % 2 : Nat) : Int)) (e5 : x5 = ((c m 3 * 256 + c m 4 : Nat) : Int)) (e7 : x7 = ((c m 5 / 2 % 32 : Nat) : Int)) (e8 : x8 = ((c m 5 % 2 : Nat) : Int)) (e10 : x10 = ((c m 6 : Nat) : Int)) (e11 : x11 = ((c m 7 : Nat) : Int)) (eB : B = st (m.drop 8)) :
    sc m = ⟨x0, x2 != 0, x5, x7, x8 != 0, x10, x11, B⟩ := by
  have d : ∀ n : Nat, n ≤ 1 → decide (n = 1) = ((n : Int) != 0) := by
    intro n hn
    have : n = 0 ∨ n = 1 := by omega
    rcases this with rfl | rfl <;> decide
  subst e0 e2 e5 e7 e8 e10 e11 eB
  unfold sc
  rw [d _ (by omega), d _ (by omega)]
set_option maxHeartbeats 6400000 in
theorem scread_any (w0 : World) (s : ByteArray) (w : World) (hs : s.size ≤ 1000000) (h8 : 8 ≤ s.size) (hk : Keeps w0 w) :
    Calls Try.prog 37 #[.string s] w (RdPost w0 (rd (ls s))) := by
  have hsz := ls_size s
  obtain ⟨m, hm⟩ : ∃ m, ls s = m := ⟨_, rfl⟩
  rw [hm] at hsz
  have hb := c_lt m
  have v0 : num (((ob m).drop 0).take 8) = c m 0 := by rw [num_byte m 0 0 8 (j := 0) (by omega) (by omega) rfl]; have := hb 0; unfold c at this ⊢; omega
  have v1 : num (((ob m).drop 8).take 1) = c m 1 / 128 := by rw [num_byte m 8 0 1 (j := 1) (by omega) (by omega) rfl]; have := hb 1; unfold c at this ⊢; omega
  have v2 : num (((ob m).drop 9).take 1) = c m 1 / 64 % 2 := by rw [num_byte m 9 1 1 (j := 1) (by omega) (by omega) rfl]; rfl
  have v3 : num (((ob m).drop 10).take 14) = c m 1 % 64 * 256 + c m 2 := num_two m 10 2 14 (j := 1) (by omega) (by omega) rfl rfl
  have v5 : num (((ob m).drop 24).take 16) = c m 3 * 256 + c m 4 := by rw [num_two m 24 0 16 (j := 3) (by omega) (by omega) rfl rfl]; have := hb 3; unfold c at this ⊢; show _ % 256 * 256 + _ = _; rw [Nat.mod_eq_of_lt this]
  have v6 : num (((ob m).drop 40).take 2) = c m 5 / 64 := by rw [num_byte m 40 0 2 (j := 5) (by omega) (by omega) rfl]; have := hb 5; unfold c at this ⊢; omega
  have v7 : num (((ob m).drop 42).take 5) = c m 5 / 2 % 32 := by rw [num_byte m 42 2 5 (j := 5) (by omega) (by omega) rfl]; rfl
  have v8 : num (((ob m).drop 47).take 1) = c m 5 % 2 := by rw [num_byte m 47 7 1 (j := 5) (by omega) (by omega) rfl]; unfold c; omega
  have v10 : num (((ob m).drop 48).take 8) = c m 6 := by rw [num_byte m 48 0 8 (j := 6) (by omega) (by omega) rfl]; have := hb 6; unfold c at this ⊢; omega
  have v11 : num (((ob m).drop 56).take 8) = c m 7 := by rw [num_byte m 56 0 8 (j := 7) (by omega) (by omega) rfl]; have := hb 7; unfold c at this ⊢; omega
  obtain ⟨x0, e0⟩ : ∃ x, x = ((c m 0 : Nat) : Int) := ⟨_, rfl⟩
  obtain ⟨x1, e1⟩ : ∃ x, x = ((c m 1 / 128 : Nat) : Int) := ⟨_, rfl⟩
  obtain ⟨x2, e2⟩ : ∃ x, x = ((c m 1 / 64 % 2 : Nat) : Int) := ⟨_, rfl⟩
  obtain ⟨x3, e3⟩ : ∃ x, x = ((c m 1 % 64 * 256 + c m 2 : Nat) : Int) := ⟨_, rfl⟩
  obtain ⟨x5, e5⟩ : ∃ x, x = ((c m 3 * 256 + c m 4 : Nat) : Int) := ⟨_, rfl⟩
  obtain ⟨x6, e6⟩ : ∃ x, x = ((c m 5 / 64 : Nat) : Int) := ⟨_, rfl⟩
  obtain ⟨x7, e7⟩ : ∃ x, x = ((c m 5 / 2 % 32 : Nat) : Int) := ⟨_, rfl⟩
  obtain ⟨x8, e8⟩ : ∃ x, x = ((c m 5 % 2 : Nat) : Int) := ⟨_, rfl⟩
  obtain ⟨x10, e10⟩ : ∃ x, x = ((c m 6 : Nat) : Int) := ⟨_, rfl⟩
  obtain ⟨x11, e11⟩ : ∃ x, x = ((c m 7 : Nat) : Int) := ⟨_, rfl⟩
  obtain ⟨b, hbw⟩ : ∃ b, w.heap.size = b := ⟨_, rfl⟩
  obtain ⟨N, hN⟩ : ∃ N, N = s.size - 8 := ⟨_, rfl⟩
  obtain ⟨B, eB⟩ : ∃ B, B = st (m.drop 8) := ⟨_, rfl⟩
  have HB := Lib.hid (show st (nx s 64 N) = B by rw [nx_whole (by decide), hm, eB]; congr 1; exact List.take_of_length_le (by rw [List.length_drop]; omega))
  have HE := Lib.hid (sc_eta e0 e2 e5 e7 e8 e10 e11 eB)
  obtain ⟨L8, hL8⟩ : ∃ L8, 8 * (s.size : Int) - ((64 : Nat) : Int) = L8 := ⟨_, rfl⟩
  have hL : L8 / 8 = (N : Int) := by omega
  have yL : 0 ≤ L8 ∧ L8 ≤ 8000000 := by omega
  have hNb : N ≤ 1000000 := by omega
  have GL := Lib.hid (fun S W (h : Rdg w0 (b + 2) b (b + 1) s 64 S W) => left_at h hL8 hs (by omega))
  have GT := Lib.hid (fun S W (h : Rdg w0 (b + 2) b (b + 1) s 64 S W) => text_at h N HB.out rfl hs (by omega))
  have t1 := hb 0
  have t2 := hb 1
  have t3 := hb 2
  have t4 := hb 3
  have t5 := hb 4
  have t6 := hb 5
  have t7 := hb 6
  have t8 := hb 7
  have y0 : 0 ≤ x0 ∧ x0 ≤ 255 := by omega
  have y5 : 0 ≤ x5 ∧ x5 ≤ 65535 := by omega
  have y6 : 0 ≤ x6 ∧ x6 ≤ 3 := by omega
  have y7 : 0 ≤ x7 ∧ x7 ≤ 31 := by omega
  have y10 : 0 ≤ x10 ∧ x10 ≤ 255 := by omega
  have y11 : 0 ≤ x11 ∧ x11 ≤ 255 := by omega
  have HN := Lib.hid (show ¬ (x6 = 3 ∧ x10 ≤ x11) → rd m = (zs, 12) from fun h => rd_no fun k => h ⟨by omega, by omega⟩)
  have HY := Lib.hid (show x6 = 3 ∧ x10 ≤ x11 → rd m = (sc m, 0) from fun h => rd_ok ⟨by omega, by omega⟩)
  obtain ⟨wA, hA⟩ : ∃ wA, (w.alloc (.cells #[.int .i64 0, .bool false, .int .i64 0, .int .i64 0, .bool false, .int .i64 0, .int .i64 0, .string ⟨#[]⟩] 65)).alloc (.cells #[.int .i64 0, .bool false, .int .i64 0, .int .i64 0, .bool false, .int .i64 0, .int .i64 0, .string ⟨#[]⟩] 65) = wA := ⟨_, rfl⟩
  have hzA : wA.heap.size = b + 2 := by rw [← hA]; simp [hbw]
  have RD := Lib.hid (read_any s wA)
  rw [hzA] at RD
  have ST := Lib.hid (fun w2 => Rdg.start (w2 := w2) (s := s) hk hbw hA)
  have G0 := Lib.hid (fun S W (h : Rdg w0 (b + 2) b (b + 1) s 0 S W) => h.get (v := x0) 8 (by rw [hm, v0, e0]; rfl) rfl (by decide) hs (by omega))
  have G1 := Lib.hid (fun S W (h : Rdg w0 (b + 2) b (b + 1) s 8 S W) => h.get (v := x1) 1 (by rw [hm, v1, e1]; rfl) rfl (by decide) hs (by omega))
  have G2 := Lib.hid (fun S W (h : Rdg w0 (b + 2) b (b + 1) s 9 S W) => h.get (v := x2) 1 (by rw [hm, v2, e2]; rfl) rfl (by decide) hs (by omega))
  have G3 := Lib.hid (fun S W (h : Rdg w0 (b + 2) b (b + 1) s 10 S W) => h.get (v := x3) 14 (by rw [hm, v3, e3]; rfl) rfl (by decide) hs (by omega))
  have G5 := Lib.hid (fun S W (h : Rdg w0 (b + 2) b (b + 1) s 24 S W) => h.get (v := x5) 16 (by rw [hm, v5, e5]; rfl) rfl (by decide) hs (by omega))
  have G6 := Lib.hid (fun S W (h : Rdg w0 (b + 2) b (b + 1) s 40 S W) => h.get (v := x6) 2 (by rw [hm, v6, e6]; rfl) rfl (by decide) hs (by omega))
  have G7 := Lib.hid (fun S W (h : Rdg w0 (b + 2) b (b + 1) s 42 S W) => h.get (v := x7) 5 (by rw [hm, v7, e7]; rfl) rfl (by decide) hs (by omega))
  have G8 := Lib.hid (fun S W (h : Rdg w0 (b + 2) b (b + 1) s 47 S W) => h.get (v := x8) 1 (by rw [hm, v8, e8]; rfl) rfl (by decide) hs (by omega))
  have G10 := Lib.hid (fun S W (h : Rdg w0 (b + 2) b (b + 1) s 48 S W) => h.get (v := x10) 8 (by rw [hm, v10, e10]; rfl) rfl (by decide) hs (by omega))
  have G11 := Lib.hid (fun S W (h : Rdg w0 (b + 2) b (b + 1) s 56 S W) => h.get (v := x11) 8 (by rw [hm, v11, e11]; rfl) rfl (by decide) hs (by omega))
  have HM := Lib.hid hm
  have hA' := hA
  clear v0 v1 v2 v3 v5 v6 v7 v8 v10 v11 e0 e1 e2 e3 e5 e6 e7 e8 e10 e11 eB hb t1 t2 t3 t4 t5 t6 t7 t8 hA hm hsz hk
  have q0 : zs.tb = 0 := rfl
  by_cases hgood : x6 = 3 ∧ x10 ≤ x11
  · replace HY := Lib.hid (HY.out hgood)
    obtain ⟨h6, h10⟩ := hgood
    clear HN HB hN
    go_enter Try.func37, Try.ntmps37
    go_wp2_with (first | (go_at_call 44; refine RD.out.mono ?_; rintro _ w1 ⟨rfl, i1, k1⟩; have R0 := Lib.hid (ST.out _ i1 k1); clear i1 k1 RD ST) | (go_at_call 45; refine (G0.out _ _ R0.out).mono ?_; rintro _ v0 ⟨rfl, r⟩; have q0 := r.a.c0; have f0 := r.a.fz 0 (by decide); have R1 := Lib.hid (r.set0 x0); clear r R0 G0) | (go_at_call 45; refine (G1.out _ _ R1.out).mono ?_; rintro _ v1 ⟨rfl, r⟩; have R2 := Lib.hid r; clear r R1 G1) | (go_at_call 45; refine (G2.out _ _ R2.out).mono ?_; rintro _ v2 ⟨rfl, r⟩; have q2 := r.a.c1; have f2 := r.a.fz 1 (by decide); have R3 := Lib.hid (r.set1 (x2 != 0)); clear r R2 G2) | (go_at_call 45; refine (G3.out _ _ R3.out).mono ?_; rintro _ v3 ⟨rfl, r⟩; have R4 := Lib.hid r; clear r R3 G3) | (go_at_call 45; refine (G5.out _ _ R4.out).mono ?_; rintro _ v4 ⟨rfl, r⟩; have q4 := r.a.c2; have f4 := r.a.fz 2 (by decide); have R5 := Lib.hid (r.set2 x5); clear r R4 G5) | (go_at_call 45; refine (G6.out _ _ R5.out).mono ?_; rintro _ v5 ⟨rfl, r⟩; have R6 := Lib.hid r; clear r R5 G6) | (go_at_call 45; refine (G7.out _ _ R6.out).mono ?_; rintro _ v6 ⟨rfl, r⟩; have q6 := r.a.c3; have f6 := r.a.fz 3 (by decide); have R7 := Lib.hid (r.set3 x7); clear r R6 G7) | (go_at_call 45; refine (G8.out _ _ R7.out).mono ?_; rintro _ v7 ⟨rfl, r⟩; have q7 := r.a.c4; have f7 := r.a.fz 4 (by decide); have R8 := Lib.hid (r.set4 (x8 != 0)); clear r R7 G8) | (go_at_call 45; refine (G10.out _ _ R8.out).mono ?_; rintro _ v8 ⟨rfl, r⟩; have q8 := r.a.c5; have f8 := r.a.fz 5 (by decide); have R9 := Lib.hid (r.set5 x10); clear r R8 G10) | (go_at_call 45; refine (G11.out _ _ R9.out).mono ?_; rintro _ v9 ⟨rfl, r⟩; have q9 := r.a.c6; have f9 := r.a.fz 6 (by decide); have qn : v9.cell? ⟨b + 1, 5, none⟩ = some (Value.int .i64 x10) := r.a.c5; have R10 := Lib.hid (r.set6 x11); clear r R9 G11) | (go_at_call 47; refine (GL.out _ _ R10.out).mono ?_; rintro _ v10 ⟨rfl, r⟩; have R11 := Lib.hid r; clear r R10) | (go_at_call 46; refine (GT.out _ _ R11.out).mono ?_; rintro _ v11 ⟨rfl, r⟩; have q11 := r.a.c7; have f11 := r.a.fz 7 (by decide); have R12 := Lib.hid (r.set7 B); clear r R11) | (refine wpList_load_mid rfl 65 _ rfl (b + 1) 0 rfl (secC _) _ R12.out.a.range Try.underlying65 rfl (by kernel_rfl) ?_) | (refine wpList_store_mid rfl 65 _ _ rfl b 0 _ rfl rfl R12.out.z.there (by kernel_rfl) (all_oneCell_toArray (secC_one _)) ?_))
    have E := R12.out.ends ⟨x0, x2 != 0, x5, x7, x8 != 0, x10, x11, B⟩
    exact sec_ret Try.results37 (lvS E.1) rfl rfl rfl (RdPost.of (by rw [HM.out, HY.out, HE.out]) E.2)
  · replace HN := Lib.hid (HN.out hgood)
    clear HY HE HB hL hN
    by_cases h6 : x6 = 3
    · have h10 : ¬ x10 ≤ x11 := fun h => hgood ⟨h6, h⟩
      clear hgood
      go_enter Try.func37, Try.ntmps37
      go_wp2_with (first | (go_at_call 44; refine RD.out.mono ?_; rintro _ w1 ⟨rfl, i1, k1⟩; have R0 := Lib.hid (ST.out _ i1 k1); clear i1 k1 RD ST) | (go_at_call 45; refine (G0.out _ _ R0.out).mono ?_; rintro _ v0 ⟨rfl, r⟩; have q0 := r.a.c0; have f0 := r.a.fz 0 (by decide); have R1 := Lib.hid (r.set0 x0); clear r R0 G0) | (go_at_call 45; refine (G1.out _ _ R1.out).mono ?_; rintro _ v1 ⟨rfl, r⟩; have R2 := Lib.hid r; clear r R1 G1) | (go_at_call 45; refine (G2.out _ _ R2.out).mono ?_; rintro _ v2 ⟨rfl, r⟩; have q2 := r.a.c1; have f2 := r.a.fz 1 (by decide); have R3 := Lib.hid (r.set1 (x2 != 0)); clear r R2 G2) | (go_at_call 45; refine (G3.out _ _ R3.out).mono ?_; rintro _ v3 ⟨rfl, r⟩; have R4 := Lib.hid r; clear r R3 G3) | (go_at_call 45; refine (G5.out _ _ R4.out).mono ?_; rintro _ v4 ⟨rfl, r⟩; have q4 := r.a.c2; have f4 := r.a.fz 2 (by decide); have R5 := Lib.hid (r.set2 x5); clear r R4 G5) | (go_at_call 45; refine (G6.out _ _ R5.out).mono ?_; rintro _ v5 ⟨rfl, r⟩; have R6 := Lib.hid r; clear r R5 G6) | (go_at_call 45; refine (G7.out _ _ R6.out).mono ?_; rintro _ v6 ⟨rfl, r⟩; have q6 := r.a.c3; have f6 := r.a.fz 3 (by decide); have R7 := Lib.hid (r.set3 x7); clear r R6 G7) | (go_at_call 45; refine (G8.out _ _ R7.out).mono ?_; rintro _ v7 ⟨rfl, r⟩; have q7 := r.a.c4; have f7 := r.a.fz 4 (by decide); have R8 := Lib.hid (r.set4 (x8 != 0)); clear r R7 G8) | (go_at_call 45; refine (G10.out _ _ R8.out).mono ?_; rintro _ v8 ⟨rfl, r⟩; have q8 := r.a.c5; have f8 := r.a.fz 5 (by decide); have R9 := Lib.hid (r.set5 x10); clear r R8 G10) | (go_at_call 45; refine (G11.out _ _ R9.out).mono ?_; rintro _ v9 ⟨rfl, r⟩; have q9 := r.a.c6; have f9 := r.a.fz 6 (by decide); have qn : v9.cell? ⟨b + 1, 5, none⟩ = some (Value.int .i64 x10) := r.a.c5; have R10 := Lib.hid (r.set6 x11); clear r R9 G11) | (refine wpList_store_mid rfl 65 _ _ rfl b 0 (secC zs).toArray rfl rfl R10.out.z.there (by kernel_rfl) (all_oneCell_toArray (secC_one zs)) ?_))
      have E := R10.out.ends zs
      exact sec_ret Try.results37 (lvS E.1) rfl rfl rfl (RdPost.of (by rw [HM.out, HN.out]) E.2)
    · clear hgood
      go_enter Try.func37, Try.ntmps37
      go_wp2_with (first | (go_at_call 44; refine RD.out.mono ?_; rintro _ w1 ⟨rfl, i1, k1⟩; have R0 := Lib.hid (ST.out _ i1 k1); clear i1 k1 RD ST) | (go_at_call 45; refine (G0.out _ _ R0.out).mono ?_; rintro _ v0 ⟨rfl, r⟩; have q0 := r.a.c0; have f0 := r.a.fz 0 (by decide); have R1 := Lib.hid (r.set0 x0); clear r R0 G0) | (go_at_call 45; refine (G1.out _ _ R1.out).mono ?_; rintro _ v1 ⟨rfl, r⟩; have R2 := Lib.hid r; clear r R1 G1) | (go_at_call 45; refine (G2.out _ _ R2.out).mono ?_; rintro _ v2 ⟨rfl, r⟩; have q2 := r.a.c1; have f2 := r.a.fz 1 (by decide); have R3 := Lib.hid (r.set1 (x2 != 0)); clear r R2 G2) | (go_at_call 45; refine (G3.out _ _ R3.out).mono ?_; rintro _ v3 ⟨rfl, r⟩; have R4 := Lib.hid r; clear r R3 G3) | (go_at_call 45; refine (G5.out _ _ R4.out).mono ?_; rintro _ v4 ⟨rfl, r⟩; have q4 := r.a.c2; have f4 := r.a.fz 2 (by decide); have R5 := Lib.hid (r.set2 x5); clear r R4 G5) | (go_at_call 45; refine (G6.out _ _ R5.out).mono ?_; rintro _ v5 ⟨rfl, r⟩; have R6 := Lib.hid r; clear r R5 G6) | (go_at_call 45; refine (G7.out _ _ R6.out).mono ?_; rintro _ v6 ⟨rfl, r⟩; have q6 := r.a.c3; have f6 := r.a.fz 3 (by decide); have R7 := Lib.hid (r.set3 x7); clear r R6 G7) | (go_at_call 45; refine (G8.out _ _ R7.out).mono ?_; rintro _ v7 ⟨rfl, r⟩; have q7 := r.a.c4; have f7 := r.a.fz 4 (by decide); have R8 := Lib.hid (r.set4 (x8 != 0)); clear r R7 G8) | (go_at_call 45; refine (G10.out _ _ R8.out).mono ?_; rintro _ v8 ⟨rfl, r⟩; have q8 := r.a.c5; have f8 := r.a.fz 5 (by decide); have R9 := Lib.hid (r.set5 x10); clear r R8 G10) | (go_at_call 45; refine (G11.out _ _ R9.out).mono ?_; rintro _ v9 ⟨rfl, r⟩; have q9 := r.a.c6; have f9 := r.a.fz 6 (by decide); have qn : v9.cell? ⟨b + 1, 5, none⟩ = some (Value.int .i64 x10) := r.a.c5; have R10 := Lib.hid (r.set6 x11); clear r R9 G11) | (refine wpList_store_mid rfl 65 _ _ rfl b 0 (secC zs).toArray rfl rfl R10.out.z.there (by kernel_rfl) (all_oneCell_toArray (secC_one zs)) ?_))
      have E := R10.out.ends zs
      exact sec_ret Try.results37 (lvS E.1) rfl rfl rfl (RdPost.of (by rw [HM.out, HN.out]) E.2)
end Go.Proofs.Ytebfihghfkcicaa
namespace Go.Proofs.Ytebfihghfkcicaa
open Go.RowKit Gf Sct Bit
set_option maxRecDepth 100000
/-- The section that is answered lies in block b, and is nothing yet. -/
structure Ans (w0 : World) (b : Nat) (W : World) : Prop where
  z : SecAt b zs W
  k : Keeps w0 W
  m : w0.heap.size ≤ b
section
variable {w0 W W' : World} {b : Nat}
theorem Ans.keeps (h : Ans w0 b W) (k : Keeps W W') : Ans w0 b W' := ⟨h.z.keeps k, h.k.trans k, h.m⟩
theorem Ans.eqv (h : Ans w0 b W) (k : Eqv W W') : Ans w0 b W' := ⟨h.z.eqv k, h.k.eqv k, h.m⟩
theorem Ans.alloc (h : Ans w0 b W) (o : Obj) : Ans w0 b (W.alloc o) := h.keeps ((Keeps.refl W).alloc o)
theorem Ans.ends (h : Ans w0 b W) (t : Sec) : SecAt b t (W.setCells b 0 (secC t)) ∧ Keeps w0 (W.setCells b 0 (secC t)) := ⟨h.z.store t, (only_setCells b (secC t) 0 W).keeps h.k h.m⟩
end
theorem Ans.start {w0 w wA : World} (hk : Keeps w0 w) {b : Nat} {T : TypeId} (hb : w.heap.size = b) (hA : w.alloc (.cells #[.int .i64 0, .bool false, .int .i64 0, .int .i64 0, .bool false, .int .i64 0, .int .i64 0, .string ⟨#[]⟩] T) = wA) : Ans w0 b wA := by
  subst hb
  subst hA
  exact ⟨SecAt.made w zs T, hk.alloc _, Below.size hk⟩
set_option maxHeartbeats 6400000 in
theorem scdec_any (w0 : World) (s : ByteArray) (w : World) (hs : s.size ≤ 1000000) (hk : Keeps w0 w) :
    Calls Try.prog 23 #[.string s] w (RdPost w0 (dec (ls s))) := by
  obtain ⟨b, hbw⟩ : ∃ b, w.heap.size = b := ⟨_, rfl⟩
  obtain ⟨wA, hA⟩ : ∃ wA, w.alloc (.cells #[.int .i64 0, .bool false, .int .i64 0, .int .i64 0, .bool false, .int .i64 0, .int .i64 0, .string ⟨#[]⟩] 65) = wA := ⟨_, rfl⟩
  have A0 := Lib.hid (Ans.start hk hbw hA)
  have HNE := Lib.hid (scneed_any wA s wA hs (Keeps.refl wA))
  unfold NeedPost at HNE
  obtain ⟨⟨n, r⟩, hn⟩ : ∃ q, need (ls s) = q := ⟨_, rfl⟩
  rw [hn] at HNE
  clear hk
  by_cases hr : r = 0
  · subst hr
    by_cases h1 : (s.size : Int) < n
    · have HD := Lib.hid (dec_short (l := ls s) (by rw [hn]) (by rw [hn, ← ls_size]; exact h1))
      clear hn
      go_enter Try.func23, Try.ntmps23
      go_wp2_with (first | (go_at_call 35; refine HNE.out.mono ?_; rintro _ w1 ⟨rfl, k1⟩; have A1 := Lib.hid (A0.out.keeps k1); clear k1 A0) | (refine wpList_store_mid rfl 65 _ _ rfl b 0 (secC zs).toArray rfl rfl A1.out.z.there (by kernel_rfl) (all_oneCell_toArray (secC_one zs)) ?_))
      have E := A1.out.ends zs
      exact sec_ret Try.results23 (lvS E.1) rfl rfl rfl (RdPost.of HD.out E.2)
    · by_cases h2 : n < (s.size : Int)
      · have HD := Lib.hid (dec_long (l := ls s) (by rw [hn]) (by rw [hn, ← ls_size]; exact h2))
        clear hn
        go_enter Try.func23, Try.ntmps23
        go_wp2_with (first | (go_at_call 35; refine HNE.out.mono ?_; rintro _ w1 ⟨rfl, k1⟩; have A1 := Lib.hid (A0.out.keeps k1); clear k1 A0) | (refine wpList_store_mid rfl 65 _ _ rfl b 0 (secC zs).toArray rfl rfl A1.out.z.there (by kernel_rfl) (all_oneCell_toArray (secC_one zs)) ?_))
        have E := A1.out.ends zs
        exact sec_ret Try.results23 (lvS E.1) rfl rfl rfl (RdPost.of HD.out E.2)
      · have he : n = (s.size : Int) := by omega
        subst he
        have HOP := Lib.hid (fun W => open_any W s W hs (Keeps.refl W))
        unfold OpnPost at HOP
        obtain ⟨⟨m, q⟩, hq⟩ : ∃ q, opn (ls s) = q := ⟨_, rfl⟩
        simp only [hq] at HOP
        by_cases hq0 : q = 0
        · subst hq0
          have HD := Lib.hid (show dec (ls s) = rd m by rw [dec_rd (by rw [hn]) (by rw [hn, ← ls_size]) (by rw [hq]), hq])
          obtain ⟨o1, o2, o3, _⟩ := opn_length (l := ls s) (by rw [hn]) (by rw [hn, ← ls_size]) (by rw [hq])
          rw [hq] at o2 o3
          simp only at o2 o3
          have HRD := Lib.hid (fun W => scread_any W (st m) W (by rw [st_size]; omega) (by rw [st_size]; exact o2) (Keeps.refl W))
          unfold RdPost at HRD
          simp only [ls_st] at HRD
          obtain ⟨⟨S, e⟩, hS⟩ : ∃ q, rd m = q := ⟨_, rfl⟩
          rw [hS] at HD
          simp only [hS] at HRD
          obtain ⟨U, hU⟩ : ∃ U, st m = U := ⟨_, rfl⟩
          simp only [hU] at HRD HOP
          clear hn hq o1 o2 o3 hS hU
          go_enter Try.func23, Try.ntmps23
          go_wp2_with (first | (go_at_call 35; refine HNE.out.mono ?_; rintro _ w1 ⟨rfl, k1⟩; have A1 := Lib.hid (A0.out.keeps k1); clear k1 A0) | (go_at_call 36; refine (HOP.out _).mono ?_; rintro _ w2 ⟨rfl, k2⟩; have A2 := Lib.hid (A1.out.keeps k2); clear k2 A1) | (go_at_call 37; refine (HRD.out _).mono ?_; rintro _ w3 ⟨rfl, k3⟩; have A3 := Lib.hid (A2.out.keeps k3); clear k3 A2) | (refine wpList_store_mid rfl 65 _ _ rfl b 0 (secC S).toArray rfl rfl A3.out.z.there (by kernel_rfl) (all_oneCell_toArray (secC_one S)) ?_))
          have E := A3.out.ends S
          exact sec_ret Try.results23 (lvS E.1) rfl rfl rfl (RdPost.of HD.out E.2)
        · have HD := Lib.hid (show dec (ls s) = (zs, q) by rw [dec_sum (by rw [hn]) (by rw [hn, ← ls_size]) (by rw [hq]; exact hq0), hq])
          have hqb : (q != 0) = true := by simpa using hq0
          clear hn hq
          go_enter Try.func23, Try.ntmps23
          go_wp2_with (first | (go_at_call 35; refine HNE.out.mono ?_; rintro _ w1 ⟨rfl, k1⟩; have A1 := Lib.hid (A0.out.keeps k1); clear k1 A0) | (go_at_call 36; refine (HOP.out _).mono ?_; rintro _ w2 ⟨rfl, k2⟩; have A2 := Lib.hid (A1.out.keeps k2); clear k2 A1) | (refine wpList_store_mid rfl 65 _ _ rfl b 0 (secC zs).toArray rfl rfl A2.out.z.there (by kernel_rfl) (all_oneCell_toArray (secC_one zs)) ?_))
          have E := A2.out.ends zs
          exact sec_ret Try.results23 (lvS E.1) rfl rfl rfl (RdPost.of HD.out E.2)
  · have HD := Lib.hid (show dec (ls s) = (zs, r) by rw [dec_need (by rw [hn]; exact hr), hn])
    have hrb : (r != 0) = true := by simpa using hr
    clear hn
    go_enter Try.func23, Try.ntmps23
    go_wp2_with (first | (go_at_call 35; refine HNE.out.mono ?_; rintro _ w1 ⟨rfl, k1⟩; have A1 := Lib.hid (A0.out.keeps k1); clear k1 A0) | (refine wpList_store_mid rfl 65 _ _ rfl b 0 (secC zs).toArray rfl rfl A1.out.z.there (by kernel_rfl) (all_oneCell_toArray (secC_one zs)) ?_))
    have E := A1.out.ends zs
    exact sec_ret Try.results23 (lvS E.1) rfl rfl rfl (RdPost.of HD.out E.2)
/-- The document's section of opened bytes, by the numbers of its bytes. -/
theorem sc_nums {m : List UInt8} {x0 x1 x3 x4 x5 x6 x7 : UInt8} {B : ByteArray} (e0 : cf m 0 = x0) (e1 : cf m 1 = x1) (e3 : cf m 3 = x3) (e4 : cf m 4 = x4) (e5 : cf m 5 = x5) (e6 : cf m 6 = x6) (e7 : cf m 7 = x7) (eB : st (m.drop 8) = B) :
    sc m = ⟨(x0.toNat : Int), (x1.toNat : Int) / 64 % 2 == 1, (x3.toNat : Int) * 256 + (x4.toNat : Int), (x5.toNat : Int) / 2 % 32, (x5.toNat : Int) % 2 == 1, (x6.toNat : Int), (x7.toNat : Int), B⟩ := by
  have d : ∀ n : Nat, decide (n = 1) = ((n : Int) == 1) := by
    intro n
    by_cases h : n = 1
    · subst h; decide
    · rw [decide_eq_false h]; symm; simp; omega
  subst e0 e1 e3 e4 e5 e6 e7 eB
  unfold sc
  rw [d, d]
  unfold c
  simp
end Go.Proofs.Ytebfihghfkcicaa
