/-
  What read and Decode of package section answer, and the document's Decode. For texts of up to a million bytes. The memory that was there stays.
-/
import Derived.StillTailTactics
import Derived.Test.YtifbomppgflkfaaDoorScV
import Derived.Test.YtifbomppgflkfaaDoorBase
namespace Go.Proofs.YtifbomppgflkfaaDoor
open Go.RowKit Gf Sct Bit
set_option maxRecDepth 100000
/-- A section and an error are answered. -/
def RdPost (w0 : World) (r : Sec × Int) (e : Ending) (w' : World) : Prop := e = .returned (.tuple #[secV r.1, .int .i64 r.2]) ∧ Keeps w0 w'
theorem RdPost.of {w0 W : World} {r : Sec × Int} {s : Sec} {n : Int} (e : r = (s, n)) (k : Keeps w0 W) : RdPost w0 r (.returned (.tuple #[secV s, .int .i64 n])) W := by rw [e]; exact ⟨rfl, k⟩
theorem lvR {w : World} {b : Nat} {s : Sec} (h : SecAt b s w) : (loadVar 69 ⟨b, 0, none⟩).run Tryd.prog w = .ok (secV s) w := run_loadVar_mid (P := Tryd.prog) w b 0 _ (secC s) _ h.range Tryd.underlying69 rfl (by kernel_rfl)
/-- The end of a function that answers a section (in a cell) and an error. -/
theorem sec_ret {W : World} {a : Act} {fn : Func} {T : TypeId} {b : Nat} {s : Sec} {n : Int} {Q : Ending → World → Prop} (hres : fn.results = #[.cell 2 T, .tmp 3])
    (hl : (loadVar T ⟨b, 0, none⟩).run Tryd.prog W = .ok (secV s) W) (h2 : a.tmps.getD 2 undef = .pointer (some ⟨b, 0, none⟩)) (h3 : a.tmps.getD 3 undef = .int .i64 n) (hd : a.defers = [])
    (h : Q (.returned (.tuple #[secV s, .int .i64 n])) W) : bodyPost Tryd.prog fn Q Exit.ret a W := by
  have h2' : a.tmps[2]?.getD undef = .pointer (some ⟨b, 0, none⟩) := by rw [← h2, Array.getD_eq_getD_getElem?]
  have h3' : a.tmps[3]?.getD undef = .int .i64 n := by rw [← h3, Array.getD_eq_getD_getElem?]
  exact bodyPost_ret (v := .tuple #[secV s, .int .i64 n]) (by simp only [results, hres]; simp [Result.andThen, asAddr, h2', h3', hl]) hd h
/-- While a section is read: the reader, what is built, what is answered. -/
structure Rdg (w0 : World) (rb b2 b4 : Nat) (s : ByteArray) (p : Nat) (S : Sec) (W : World) : Prop where
  i : InAt rb 0 s p W
  a : SecAt b4 S W
  z : SecAt b2 zs W
  k : Keeps w0 W
  n1 : b4 ≠ rb
  n2 : b2 ≠ rb
  n3 : b2 ≠ b4
  m1 : w0.heap.size ≤ rb
  m2 : w0.heap.size ≤ b2
  m4 : w0.heap.size ≤ b4
section
variable {w0 W W' : World} {rb b2 b4 p q : Nat} {s : ByteArray} {S : Sec}
theorem Rdg.got (h : Rdg w0 rb b2 b4 s p S W) (i : InAt rb 0 s q W') (o : Only rb W W') : Rdg w0 rb b2 b4 s q S W' :=
  ⟨i, h.a.only h.n1 o, h.z.only h.n2 o, o.keeps h.k h.m1, h.n1, h.n2, h.n3, h.m1, h.m2, h.m4⟩
theorem Rdg.wrote (h : Rdg w0 rb b2 b4 s p S W) {S' : Sec} (o : Only b4 W W') (a : SecAt b4 S' W') : Rdg w0 rb b2 b4 s p S' W' :=
  ⟨h.i.only (Ne.symm h.n1) o, a, h.z.only h.n3 o, o.keeps h.k h.m4, h.n1, h.n2, h.n3, h.m1, h.m2, h.m4⟩
theorem Rdg.eqv (h : Rdg w0 rb b2 b4 s p S W) (e : Eqv W W') : Rdg w0 rb b2 b4 s p S W' := h.got (h.i.eqv e) (Only.eqv e)
theorem Rdg.set0 (h : Rdg w0 rb b2 b4 s p S W) (x : Int) : Rdg w0 rb b2 b4 s p { S with tb := x } (W.setCell ⟨b4, 0, none⟩ (.int .i64 x)) := h.wrote (Only.setCell W ⟨b4, 0, none⟩ _) (h.a.set0 x)
theorem Rdg.set1 (h : Rdg w0 rb b2 b4 s p S W) (x : Bool) : Rdg w0 rb b2 b4 s p { S with pv := x } (W.setCell ⟨b4, 1, none⟩ (.bool x)) := h.wrote (Only.setCell W ⟨b4, 1, none⟩ _) (h.a.set1 x)
theorem Rdg.set2 (h : Rdg w0 rb b2 b4 s p S W) (x : Int) : Rdg w0 rb b2 b4 s p { S with ex := x } (W.setCell ⟨b4, 2, none⟩ (.int .i64 x)) := h.wrote (Only.setCell W ⟨b4, 2, none⟩ _) (h.a.set2 x)
theorem Rdg.set3 (h : Rdg w0 rb b2 b4 s p S W) (x : Int) : Rdg w0 rb b2 b4 s p { S with ver := x } (W.setCell ⟨b4, 3, none⟩ (.int .i64 x)) := h.wrote (Only.setCell W ⟨b4, 3, none⟩ _) (h.a.set3 x)
theorem Rdg.set4 (h : Rdg w0 rb b2 b4 s p S W) (x : Bool) : Rdg w0 rb b2 b4 s p { S with nw := x } (W.setCell ⟨b4, 4, none⟩ (.bool x)) := h.wrote (Only.setCell W ⟨b4, 4, none⟩ _) (h.a.set4 x)
theorem Rdg.set5 (h : Rdg w0 rb b2 b4 s p S W) (x : Int) : Rdg w0 rb b2 b4 s p { S with num := x } (W.setCell ⟨b4, 5, none⟩ (.int .i64 x)) := h.wrote (Only.setCell W ⟨b4, 5, none⟩ _) (h.a.set5 x)
theorem Rdg.set6 (h : Rdg w0 rb b2 b4 s p S W) (x : Int) : Rdg w0 rb b2 b4 s p { S with la := x } (W.setCell ⟨b4, 6, none⟩ (.int .i64 x)) := h.wrote (Only.setCell W ⟨b4, 6, none⟩ _) (h.a.set6 x)
theorem Rdg.set7 (h : Rdg w0 rb b2 b4 s p S W) (x : ByteArray) : Rdg w0 rb b2 b4 s p { S with body := x } (W.setCell ⟨b4, 7, none⟩ (.string x)) := h.wrote (Only.setCell W ⟨b4, 7, none⟩ _) (h.a.set7 x)
/-- The result's cell is written: at the end. -/
theorem Rdg.ends (h : Rdg w0 rb b2 b4 s p S W) (t : Sec) : SecAt b2 t (W.setCells b2 0 (secC t)) ∧ Keeps w0 (W.setCells b2 0 (secC t)) :=
  ⟨h.z.store t, (only_setCells b2 (secC t) 0 W).keeps h.k h.m2⟩
/-- Get, in this state. -/
theorem Rdg.get (h : Rdg w0 rb b2 b4 s p S W) (N : Nat) {v : Int} (hv : un (num (((ob (ls s)).drop p).take N)) = v) (hq : p + N = q) (hN : N ≤ 64) (hs : s.size ≤ 1000000) (hp : p + N ≤ 8 * s.size) :
    Calls Tryd.prog 37 #[.pointer (some ⟨rb, 0, none⟩), .int .i64 (N : Int)] W fun x w' => x = .returned (.int .u64 v) ∧ Rdg w0 rb b2 b4 s q S w' :=
  (get_at h.i N hv hq hN hs hp).mono fun _ _ hh => ⟨hh.1, h.got hh.2.1 hh.2.2⟩
end
theorem left_at {w0 W : World} {rb b2 b4 p : Nat} {s : ByteArray} {S : Sec} (h : Rdg w0 rb b2 b4 s p S W) {L : Int} (hL : 8 * (s.size : Int) - (p : Int) = L) (hs : s.size ≤ 1000000) (hp : p ≤ 8 * s.size) :
    Calls Tryd.prog 44 #[.pointer (some ⟨rb, 0, none⟩)] W fun x w' => x = .returned (.int .i64 L) ∧ Rdg w0 rb b2 b4 s p S w' :=
  (left_any h.i hs hp).mono fun _ _ hh => ⟨by rw [hh.1, hL], h.eqv hh.2⟩
theorem sc_eta {m : List UInt8} {x0 x2 x5 x7 x8 x10 x11 : Int} {B : ByteArray} (e0 : x0 = ((c m 0 : Nat) : Int)) (e2 : x2 = ((c m 1 / 64 % 2 : Nat) : Int)) (e5 : x5 = ((c m 3 * 256 + c m 4 : Nat) : Int)) (e7 : x7 = ((c m 5 / 2 % 32 : Nat) : Int)) (e8 : x8 = ((c m 5 % 2 : Nat) : Int)) (e10 : x10 = ((c m 6 : Nat) : Int)) (e11 : x11 = ((c m 7 : Nat) : Int)) (eB : B = st (m.drop 8)) :
    sc m = ⟨x0, x2 != 0, x5, x7, x8 != 0, x10, x11, B⟩ := by
  have d : ∀ n : Nat, n ≤ 1 → decide (n = 1) = ((n : Int) != 0) := by
    intro n hn
    have : n = 0 ∨ n = 1 := by omega
    rcases this with rfl | rfl <;> decide
  subst e0 e2 e5 e7 e8 e10 e11 eB
  unfold sc
  rw [d _ (by omega), d _ (by omega)]
end Go.Proofs.YtifbomppgflkfaaDoor
namespace Go.Proofs.YtifbomppgflkfaaDoor
open Go.RowKit Gf Sct Bit
set_option maxRecDepth 100000
/-- The section that is answered lies in block b, and is nothing yet. -/
structure Ans (w0 : World) (b : Nat) (W : World) : Prop where
  z : SecAt b zs W
  k : Keeps w0 W
  m : w0.heap.size ≤ b
section
variable {w0 W W' : World} {b : Nat}
theorem Ans.keeps (h : Ans w0 b W) (k : Keeps W W') : Ans w0 b W' := ⟨h.z.keeps k, h.k.trans k, h.m⟩
theorem Ans.eqv (h : Ans w0 b W) (k : Eqv W W') : Ans w0 b W' := ⟨h.z.eqv k, h.k.eqv k, h.m⟩
theorem Ans.alloc (h : Ans w0 b W) (o : Obj) : Ans w0 b (W.alloc o) := h.keeps ((Keeps.refl W).alloc o)
theorem Ans.ends (h : Ans w0 b W) (t : Sec) : SecAt b t (W.setCells b 0 (secC t)) ∧ Keeps w0 (W.setCells b 0 (secC t)) := ⟨h.z.store t, (only_setCells b (secC t) 0 W).keeps h.k h.m⟩
end
theorem Ans.start {w0 w wA : World} (hk : Keeps w0 w) {b : Nat} {T : TypeId} (hb : w.heap.size = b) (hA : w.alloc (.cells #[.int .i64 0, .bool false, .int .i64 0, .int .i64 0, .bool false, .int .i64 0, .int .i64 0, .string ⟨#[]⟩] T) = wA) : Ans w0 b wA := by
  subst hb
  subst hA
  exact ⟨SecAt.made w zs T, hk.alloc _, Below.size hk⟩
/-- The document's section of opened bytes, by the numbers of its bytes. -/
theorem sc_nums {m : List UInt8} {x0 x1 x3 x4 x5 x6 x7 : UInt8} {B : ByteArray} (e0 : cf m 0 = x0) (e1 : cf m 1 = x1) (e3 : cf m 3 = x3) (e4 : cf m 4 = x4) (e5 : cf m 5 = x5) (e6 : cf m 6 = x6) (e7 : cf m 7 = x7) (eB : st (m.drop 8) = B) :
    sc m = ⟨(x0.toNat : Int), (x1.toNat : Int) / 64 % 2 == 1, (x3.toNat : Int) * 256 + (x4.toNat : Int), (x5.toNat : Int) / 2 % 32, (x5.toNat : Int) % 2 == 1, (x6.toNat : Int), (x7.toNat : Int), B⟩ := by
  have d : ∀ n : Nat, decide (n = 1) = ((n : Int) == 1) := by
    intro n
    by_cases h : n = 1
    · subst h; decide
    · rw [decide_eq_false h]; symm; simp; omega
  subst e0 e1 e3 e4 e5 e6 e7 eB
  unfold sc
  rw [d, d]
  unfold c
  simp
end Go.Proofs.YtifbomppgflkfaaDoor
