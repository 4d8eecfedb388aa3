/-
  What read answers, the section of opened bytes: for texts of up to a million bytes. The memory that was there stays.
-/
import Derived.Test.YtofnokikjfmfgaaScB
namespace Go.Proofs.Ytofnokikjfmfgaa
open Go.RowKit Gf Sct Bit
set_option maxRecDepth 100000
/-- A section and an error are answered. -/
def RdPost (w0 : World) (r : Sec × Int) (e : Ending) (w' : World) : Prop := e = .returned (.tuple #[secV r.1, .int .i64 r.2]) ∧ Keeps w0 w'
theorem RdPost.of {w0 W : World} {r : Sec × Int} {s : Sec} {n : Int} (e : r = (s, n)) (k : Keeps w0 W) : RdPost w0 r (.returned (.tuple #[secV s, .int .i64 n])) W := by rw [e]; exact ⟨rfl, k⟩
theorem lvS {w : World} {b : Nat} {s : Sec} (h : SecAt b s w) : (loadVar 29 ⟨b, 0, none⟩).run Try.prog w = .ok (secV s) w := run_loadVar_mid (P := Try.prog) w b 0 _ (secC s) _ h.range Try.underlying29 rfl (by kernel_rfl)
/-- The end of a function that answers a section (in a cell) and an error. -/
theorem sec_ret {W : World} {a : Act} {fn : Func} {T : TypeId} {b : Nat} {s : Sec} {n : Int} {Q : Ending → World → Prop} (hres : fn.results = #[.cell 2 T, .tmp 3])
    (hl : (loadVar T ⟨b, 0, none⟩).run Try.prog W = .ok (secV s) W) (h2 : a.tmps.getD 2 undef = .pointer (some ⟨b, 0, none⟩)) (h3 : a.tmps.getD 3 undef = .int .i64 n) (hd : a.defers = [])
    (h : Q (.returned (.tuple #[secV s, .int .i64 n])) W) : bodyPost Try.prog fn Q Exit.ret a W := by
  have h2' : a.tmps[2]?.getD undef = .pointer (some ⟨b, 0, none⟩) := by rw [← h2, Array.getD_eq_getD_getElem?]
  have h3' : a.tmps[3]?.getD undef = .int .i64 n := by rw [← h3, Array.getD_eq_getD_getElem?]
  exact bodyPost_ret (v := .tuple #[secV s, .int .i64 n]) (by simp only [results, hres]; simp [Result.andThen, asAddr, h2', h3', hl]) hd h
/-- While a section is read: the reader, what is built, what is answered. -/
structure Rdg (w0 : World) (rb b2 b4 : Nat) (s : ByteArray) (p : Nat) (S : Sec) (W : World) : Prop where
  i : InAt rb 0 s p W
  a : SecAt b4 S W
  z : SecAt b2 zs W
  k : Keeps w0 W
  n1 : b4 ≠ rb
  n2 : b2 ≠ rb
  n3 : b2 ≠ b4
  m1 : w0.heap.size ≤ rb
  m2 : w0.heap.size ≤ b2
  m4 : w0.heap.size ≤ b4
section
variable {w0 W W' : World} {rb b2 b4 p q : Nat} {s : ByteArray} {S : Sec}
theorem Rdg.got (h : Rdg w0 rb b2 b4 s p S W) (i : InAt rb 0 s q W') (o : Only rb W W') : Rdg w0 rb b2 b4 s q S W' :=
  ⟨i, h.a.only h.n1 o, h.z.only h.n2 o, o.keeps h.k h.m1, h.n1, h.n2, h.n3, h.m1, h.m2, h.m4⟩
theorem Rdg.wrote (h : Rdg w0 rb b2 b4 s p S W) {S' : Sec} (o : Only b4 W W') (a : SecAt b4 S' W') : Rdg w0 rb b2 b4 s p S' W' :=
  ⟨h.i.only (Ne.symm h.n1) o, a, h.z.only h.n3 o, o.keeps h.k h.m4, h.n1, h.n2, h.n3, h.m1, h.m2, h.m4⟩
theorem Rdg.eqv (h : Rdg w0 rb b2 b4 s p S W) (e : Eqv W W') : Rdg w0 rb b2 b4 s p S W' := h.got (h.i.eqv e) (Only.eqv e)
theorem Rdg.set0 (h : Rdg w0 rb b2 b4 s p S W) (x : Int) : Rdg w0 rb b2 b4 s p { S with tb := x } (W.setCell ⟨b4, 0, none⟩ (.int .i64 x)) := h.wrote (Only.setCell W ⟨b4, 0, none⟩ _) (h.a.set0 x)
theorem Rdg.set1 (h : Rdg w0 rb b2 b4 s p S W) (x : Bool) : Rdg w0 rb b2 b4 s p { S with pv := x } (W.setCell ⟨b4, 1, none⟩ (.bool x)) := h.wrote (Only.setCell W ⟨b4, 1, none⟩ _) (h.a.set1 x)
theorem Rdg.set2 (h : Rdg w0 rb b2 b4 s p S W) (x : Int) : Rdg w0 rb b2 b4 s p { S with ex := x } (W.setCell ⟨b4, 2, none⟩ (.int .i64 x)) := h.wrote (Only.setCell W ⟨b4, 2, none⟩ _) (h.a.set2 x)
theorem Rdg.set3 (h : Rdg w0 rb b2 b4 s p S W) (x : Int) : Rdg w0 rb b2 b4 s p { S with ver := x } (W.setCell ⟨b4, 3, none⟩ (.int .i64 x)) := h.wrote (Only.setCell W ⟨b4, 3, none⟩ _) (h.a.set3 x)
theorem Rdg.set4 (h : Rdg w0 rb b2 b4 s p S W) (x : Bool) : Rdg w0 rb b2 b4 s p { S with nw := x } (W.setCell ⟨b4, 4, none⟩ (.bool x)) := h.wrote (Only.setCell W ⟨b4, 4, none⟩ _) (h.a.set4 x)
theorem Rdg.set5 (h : Rdg w0 rb b2 b4 s p S W) (x : Int) : Rdg w0 rb b2 b4 s p { S with num := x } (W.setCell ⟨b4, 5, none⟩ (.int .i64 x)) := h.wrote (Only.setCell W ⟨b4, 5, none⟩ _) (h.a.set5 x)
theorem Rdg.set6 (h : Rdg w0 rb b2 b4 s p S W) (x : Int) : Rdg w0 rb b2 b4 s p { S with la := x } (W.setCell ⟨b4, 6, none⟩ (.int .i64 x)) := h.wrote (Only.setCell W ⟨b4, 6, none⟩ _) (h.a.set6 x)
theorem Rdg.set7 (h : Rdg w0 rb b2 b4 s p S W) (x : ByteArray) : Rdg w0 rb b2 b4 s p { S with body := x } (W.setCell ⟨b4, 7, none⟩ (.string x)) := h.wrote (Only.setCell W ⟨b4, 7, none⟩ _) (h.a.set7 x)
/-- The result's cell is written: at the end. -/
theorem Rdg.ends (h : Rdg w0 rb b2 b4 s p S W) (t : Sec) : SecAt b2 t (W.setCells b2 0 (secC t)) ∧ Keeps w0 (W.setCells b2 0 (secC t)) :=
  ⟨h.z.store t, (only_setCells b2 (secC t) 0 W).keeps h.k h.m2⟩
/-- Get, in this state. -/
theorem Rdg.get (h : Rdg w0 rb b2 b4 s p S W) (N : Nat) {v : Int} (hv : un (num (((ob (ls s)).drop p).take N)) = v) (hq : p + N = q) (hN : N ≤ 64) (hs : s.size ≤ 1000000) (hp : p + N ≤ 8 * s.size) :
    Calls Try.prog 43 #[.pointer (some ⟨rb, 0, none⟩), .int .i64 (N : Int)] W fun x w' => x = .returned (.int .u64 v) ∧ Rdg w0 rb b2 b4 s q S w' :=
  (get_at h.i N hv hq hN hs hp).mono fun _ _ hh => ⟨hh.1, h.got hh.2.1 hh.2.2⟩
end
theorem left_at {w0 W : World} {rb b2 b4 p : Nat} {s : ByteArray} {S : Sec} (h : Rdg w0 rb b2 b4 s p S W) {L : Int} (hL : 8 * (s.size : Int) - (p : Int) = L) (hs : s.size ≤ 1000000) (hp : p ≤ 8 * s.size) :
    Calls Try.prog 59 #[.pointer (some ⟨rb, 0, none⟩)] W fun x w' => x = .returned (.int .i64 L) ∧ Rdg w0 rb b2 b4 s p S w' :=
  (left_any h.i hs hp).mono fun _ _ hh => ⟨by rw [hh.1, hL], h.eqv hh.2⟩
theorem Rdg.start {w0 w wA w2 : World} (hk : Keeps w0 w) {b : Nat} {s : ByteArray} (hb : w.heap.size = b) (hA : (w.alloc (.cells #[.int .i64 0, .bool false, .int .i64 0, .int .i64 0, .bool false, .int .i64 0, .int .i64 0, .string ⟨#[]⟩] 29)).alloc (.cells #[.int .i64 0, .bool false, .int .i64 0, .int .i64 0, .bool false, .int .i64 0, .int .i64 0, .string ⟨#[]⟩] 29) = wA)
    (i : InAt (b + 2) 0 s 0 w2) (k : Keeps wA w2) : Rdg w0 (b + 2) b (b + 1) s 0 zs w2 := by
  subst hb
  subst hA
  have h1 := SecAt.made w zs 29
  have h2 := SecAt.made (w.alloc (.cells #[.int .i64 0, .bool false, .int .i64 0, .int .i64 0, .bool false, .int .i64 0, .int .i64 0, .string ⟨#[]⟩] 29)) zs 29
  rw [World.size_alloc] at h2
  have hz := Below.size hk
  exact ⟨i, h2.keeps k, (h1.keeps ((Keeps.refl _).alloc _)).keeps k, ((hk.alloc _).alloc _).trans k, by omega, by omega, by omega, by omega, by omega, by omega⟩
theorem sc_eta {m : List UInt8} {x0 x2 x5 x7 x8 x10 x11 : Int} {B : ByteArray} (e0 : x0 = ((c m 0 : Nat) : Int)) (e2 : x2 = ((c m 1 / 64 % 2 : Nat) : Int)) (e5 : x5 = ((c m 3 * 256 + c m 4 : Nat) : Int)) (e7 : x7 = ((c m 5 / 2 % 32 : Nat) : Int)) (e8 : x8 = ((c m 5 % 2 : Nat) : Int)) (e10 : x10 = ((c m 6 : Nat) : Int)) (e11 : x11 = ((c m 7 : Nat) : Int)) (eB : B = st (m.drop 8)) :
    sc m = ⟨x0, x2 != 0, x5, x7, x8 != 0, x10, x11, B⟩ := by
  have d : ∀ n : Nat, n ≤ 1 → decide (n = 1) = ((n : Int) != 0) := by
    intro n hn
    have : n = 0 ∨ n = 1 := by omega
    rcases this with rfl | rfl <;> decide
  subst e0 e2 e5 e7 e8 e10 e11 eB
  unfold sc
  rw [d _ (by omega), d _ (by omega)]
end Go.Proofs.Ytofnokikjfmfgaa
