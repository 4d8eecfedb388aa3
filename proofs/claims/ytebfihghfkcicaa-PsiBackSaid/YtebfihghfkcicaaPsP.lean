/-
  What same (of two tables that are one), PlainPat and PlainPmt of layer 17's statements answer. The memory that was there stays.
-/
import Derived.Test.YtebfihghfkcicaaPsV
namespace Go.Proofs.Ytebfihghfkcicaa
open Go.RowKit Gf Ps
set_option maxRecDepth 100000
abbrev tabC (e v c : Int) (i : ByteArray) (s : Value) : List Value := [.int .i64 e, .int .i64 v, .int .i64 c, .string i, s]
theorem lvTab {w : World} {b : Nat} {e v c : Int} {i : ByteArray} {a : Option Addr} {n cap : Nat} (h : w.rangeAt b 0 (tabC e v c i (.slice a n cap))) : (loadVar 41 ⟨b, 0, none⟩).run Try.prog w = .ok (.agg #[.int .i64 e, .int .i64 v, .int .i64 c, .string i, .slice a n cap]) w :=
  run_loadVar_mid (P := Try.prog) w b 0 _ (tabC e v c i (.slice a n cap)) _ h Try.underlying41 rfl (by kernel_rfl)
theorem wp_ldTab {ops : Array Oper} {rest : List Oper} {o : Oper} {u : Act} {w : World} {Q : Exit → Act → World → Prop} {b : Nat} {e v c : Int} {i : ByteArray} {a : Option Addr} {n cap : Nat} (h : w.rangeAt b 0 (tabC e v c i (.slice a n cap))) (hgd : o.guard = none) (x : Operand) (ho : o.op = .load 41 x)
    (hx : u.eval x = .pointer (some ⟨b, 0, none⟩)) (k : wpList Try.prog ops Q rest (u.put o.dst (.agg #[.int .i64 e, .int .i64 v, .int .i64 c, .string i, .slice a n cap])) w) : wpList Try.prog ops Q (o :: rest) u w :=
  wpList_load_mid hgd _ x ho b 0 hx (tabC e v c i (.slice a n cap)) _ h Try.underlying41 rfl (by kernel_rfl) k
theorem wp_stTab {ops : Array Oper} {rest : List Oper} {o : Oper} {u : Act} {w : World} {Q : Exit → Act → World → Prop} {b : Nat} (e v c : Int) (i : ByteArray) (a : Option Addr) (n cap : Nat) (h : w.there b 0 5) (hgd : o.guard = none) (x y : Operand) (ho : o.op = .store 41 x y)
    (hx : u.eval x = .pointer (some ⟨b, 0, none⟩)) (hy : u.eval y = .agg #[.int .i64 e, .int .i64 v, .int .i64 c, .string i, .slice a n cap]) (k : wpList Try.prog ops Q rest (u.put o.dst undef) (w.setCells b 0 (tabC e v c i (.slice a n cap)))) : wpList Try.prog ops Q (o :: rest) u w :=
  wpList_store_mid hgd _ x y ho b 0 (tabC e v c i (.slice a n cap)).toArray hx hy h (by kernel_rfl) (all_oneCell_toArray (fun u hu => by
    simp only [tabC, List.mem_cons, List.not_mem_nil, or_false] at hu
    rcases hu with rfl | rfl | rfl | rfl | rfl <;> rfl)) k
theorem ldQs {w : World} {b o : Nat} {s : Qst} (h : w.rangeAt b o (qsC s)) : (Instr.loadAt 59 (.pointer (some ⟨b, o, none⟩))).run Try.prog w = .ok (qsV s) w := run_loadAt_mid (P := Try.prog) w b o _ (qsC s) _ h Try.underlying59 rfl (by kernel_rfl)
theorem eqQs0 (a : Qst) (w : World) (d : Nat) : (Op.equalIn (d + 1 + 1) 59 (qsV a) (qsV a)).run Try.prog w = .ok true w := by
  have u1 := Try.underlying3
  have u3 := Try.underlying9
  have a1 := Try.isAgg3
  have a3 := Try.isAgg9
  have hS : Try.prog.underlying 59 = some (.struct (Try.prog.fieldsOf 59)) := by kernel_rfl
  have hp : Try.prog.stoodInHeld 59 = false := by kernel_rfl
  rw [run_equalIn_agg w (d + 1) _ _ _ hS hp]
  simp only [Program.fieldsOf, Try.underlying59]
  go_simp
theorem neQs (a : Qst) (w : World) : (binOp .neq 59 (qsV a) (qsV a)).run Try.prog w = .ok (.bool false) w := by rw [run_neq_struct, show (10000 : Nat) = 9998 + 1 + 1 from rfl, eqQs0]; rfl
theorem egQs : Try.prog.eqGuardType Try.prog.depth 59 = false := by kernel_rfl
set_option maxHeartbeats 3200000 in
theorem psame_any (e v c : Int) (inf : ByteArray) {a a' : Option Addr} {n cap cap' : Nat} {l : List Qst} (w : World) (h : IsE rowQs w a n l) (h' : IsE rowQs w a' n l) (hn : n ≤ 1000000) :
    Calls Try.prog 12 #[.agg #[.int .i64 e, .int .i64 v, .int .i64 c, .string inf, .slice a n cap], .agg #[.int .i64 e, .int .i64 v, .int .i64 c, .string inf, .slice a' n cap']] w fun e w' => e = .returned (.bool true) ∧ Keeps w w' := by
  obtain ⟨wA, hA⟩ : ∃ wX, w.alloc (.cells #[.int .i64 e, .int .i64 v, .int .i64 c, .string inf, .slice a n cap] 41) = wX := ⟨_, rfl⟩
  obtain ⟨b, hb⟩ : ∃ b, w.heap.size = b := ⟨_, rfl⟩
  have HA := Lib.hid (CsAns.start (Keeps.refl w) (a := #[.int .i64 e, .int .i64 v, .int .i64 c, .string inf, .slice a n cap]) (by simp) hb hA)
  have hz : wA.heap.size = b + 1 := by rw [← hA, World.size_alloc, hb]
  obtain ⟨wB, hB⟩ : ∃ wX, wA.alloc (.cells #[.int .i64 e, .int .i64 v, .int .i64 c, .string inf, .slice a' n cap'] 41) = wX := ⟨_, rfl⟩
  have kB : Keeps wA wB := by rw [← hB]; exact (Keeps.refl wA).alloc _
  have HA2 := Lib.hid (HA.out.keeps kB)
  have HB := Lib.hid (CsAns.start (Keeps.refl wA) (a := #[.int .i64 e, .int .i64 v, .int .i64 c, .string inf, .slice a' n cap']) (by simp) hz hB)
  have HI := Lib.hid (h.keeps HA2.out.k)
  have HJ := Lib.hid (h'.keeps HA2.out.k)
  have HN := Lib.hid h.1
  have q0 := HA2.out.z.cell 0 rfl
  have q1 := HA2.out.z.cell 1 rfl
  have q2 := HA2.out.z.cell 2 rfl
  have q3 := HA2.out.z.cell 3 rfl
  have q4 := HA2.out.z.cell 4 rfl
  have r0 := HB.out.z.cell 0 rfl
  have r1 := HB.out.z.cell 1 rfl
  have r2 := HB.out.z.cell 2 rfl
  have r3 := HB.out.z.cell 3 rfl
  have r4 := HB.out.z.cell 4 rfl
  clear h h' kB
  go_enter Try.func12, Try.ntmps12
  go_wp2
  go_loopw [5] (fun i wr => ∃ k : Nat, k ≤ n ∧ i = .int .i64 (k : Int) ∧ Eqv wB wr) (fun i _ => n - (intOf i).toNat)
  case atStart => exact ⟨0, Nat.zero_le _, rfl, Eqv.refl _⟩
  case round =>
    obtain ⟨k, hk, rfl, hq⟩ := hrel
    have HQ := Lib.hid hq
    have s4 := (hq.cell _).trans q4
    have t4 := (hq.cell _).trans r4
    clear q0 q1 q2 q3 q4 r0 r1 r2 r3 r4 hA hB hz
    by_cases hlt : k < n
    · have hlI : (k : Int) < (n : Int) := by omega
      have hkL : k < l.length := by have := HN.out; omega
      obtain ⟨b1, o1, rfl, _, hr1⟩ := (HI.out.eqv HQ.out).range hkL
      obtain ⟨b2, o2, rfl, _, hr2⟩ := (HJ.out.eqv HQ.out).range hkL
      obtain ⟨s, hs⟩ : ∃ s, l[k] = s := ⟨_, rfl⟩
      have HR1 := Lib.hid (show wr.rangeAt b1 (o1 + k * 4) (qsC s) by rw [← hs]; exact hr1)
      have HR2 := Lib.hid (show wr.rangeAt b2 (o2 + k * 4) (qsC s) by rw [← hs]; exact hr2)
      have wr1 := wrapI (a := (k : Int) + 1) (by omega) (by omega)
      obtain ⟨s1, s2, s3, s5⟩ := s
      clear hr1 hr2 hs hq
      go_wp2
      refine wp_draw (by kernel_rfl)
        [.pointer (some ⟨b, 4, none⟩), .slice (some ⟨b1, o1, none⟩) n cap, .int .i64 (k : Int), .pointer (some ⟨b1, o1 + k * 4, none⟩), qsV ⟨s1, s2, s3, s5⟩, .pointer (some ⟨b + 1, 4, none⟩), .slice (some ⟨b2, o2, none⟩) n cap', .int .i64 (k : Int), .pointer (some ⟨b2, o2 + k * 4, none⟩), qsV ⟨s1, s2, s3, s5⟩, .bool false]
        (fun _ W => Eqv wr W) rfl (by kernel_rfl) (fin := ?fin) ?hfin (Eqv.drew wr) ?each ?hend
      case hfin => simp [seqA, dstOf, Act.put]; rfl
      case each =>
        refine ⟨?_, ?_, ?_, ?_, ?_, ?_, ?_, ?_, ?_, ?_, ?_, trivial⟩
        all_goals intro L w5 h0 hd hsh hw
        all_goals unfold Does
        all_goals have c4 := (hw.cell _).trans s4
        all_goals have d4 := (hw.cell _).trans t4
        all_goals have x0 : w5.cell? ⟨b1, o1 + k * 4, none⟩ = some (.int .i64 s1) := (hw.cell _).trans (HR1.out 0 _ rfl)
        all_goals have x1 : w5.cell? ⟨b1, o1 + k * 4 + 1, none⟩ = some (.int .i64 s2) := (hw.cell _).trans (HR1.out 1 _ rfl)
        all_goals have x2 : w5.cell? ⟨b1, o1 + k * 4 + 2, none⟩ = some (.int .i64 s3) := (hw.cell _).trans (HR1.out 2 _ rfl)
        all_goals have x3 : w5.cell? ⟨b1, o1 + k * 4 + 3, none⟩ = some (.string s5) := (hw.cell _).trans (HR1.out 3 _ rfl)
        all_goals have y0 : w5.cell? ⟨b2, o2 + k * 4, none⟩ = some (.int .i64 s1) := (hw.cell _).trans (HR2.out 0 _ rfl)
        all_goals have y1 : w5.cell? ⟨b2, o2 + k * 4 + 1, none⟩ = some (.int .i64 s2) := (hw.cell _).trans (HR2.out 1 _ rfl)
        all_goals have y2 : w5.cell? ⟨b2, o2 + k * 4 + 2, none⟩ = some (.int .i64 s3) := (hw.cell _).trans (HR2.out 2 _ rfl)
        all_goals have y3 : w5.cell? ⟨b2, o2 + k * 4 + 3, none⟩ = some (.string s5) := (hw.cell _).trans (HR2.out 3 _ rfl)
        all_goals have n1 := neQs ⟨s1, s2, s3, s5⟩ w5
        all_goals have g1 := egQs
        all_goals go_simp
        all_goals exact fun L' k => hw
      case hend =>
      intro L w6 hL hw
      have HQ6 := Lib.hid (HQ.out.trans hw)
      clear hw hL
      go_wp2
      go_roundw
      case rel => exact ⟨k + 1, by omega, by go_num, HQ6.out⟩
      case measure => simp [intOf]; omega
    · have hlI : ¬ (k : Int) < (n : Int) := by omega
      go_wp2
      go_ret
      exact ⟨rfl, (HA.out.k.trans HB.out.k).eqv HQ.out⟩
/-- What the document's tables have of a program, and of a stream. -/
def qPr (p : Int × Int) : Qst := ⟨0, p.1, p.2, ⟨#[]⟩⟩
def qSt (s : Strm) : Qst := ⟨s.kind, s.pid, 0, s.info⟩
/-- A table that grows, in block b. -/
structure TabIn (wC : World) (b : Nat) (e v c : Int) (i : ByteArray) (s : Value) (l : List Qst) (wr : World) : Prop where
  t : CsAt b (tabC e v c i s) wr
  o : OwnE rowQs wr wC.heap.size s l
  f : Foot (fun k => k = b) wC wr
  m : b < wC.heap.size
theorem TabIn.apart {wC : World} {b : Nat} {e v c : Int} {i : ByteArray} {s : Value} {l : List Qst} {wr : World} (h : TabIn wC b e v c i s l wr) : ∀ g, s.ownBlock = some g → b < g := fun g hg => Nat.lt_of_lt_of_le h.m (h.o.block g hg)
theorem TabIn.keeps {wC : World} {b : Nat} {e v c : Int} {i : ByteArray} {s : Value} {l : List Qst} {wr w' : World} (h : TabIn wC b e v c i s l wr) (k : Keeps wr w') : TabIn wC b e v c i s l w' :=
  ⟨h.t.keeps k, h.o.keeps k, h.f.same (k.foot _), h.m⟩
/-- Behind an append, ahead of the store of what it answers. -/
theorem TabIn.cat {wC : World} {b : Nat} {e v c : Int} {i : ByteArray} {s s' : Value} {l l' : List Qst} {wr w' : World} (h : TabIn wC b e v c i s l wr) (g : wr.grownBy w' s.ownBlock) (o : OwnE rowQs w' wC.heap.size s' l') :
    CsAt b (tabC e v c i s) w' ∧ ∀ w2, w2 = w'.setCell ⟨b, 4, none⟩ s' → TabIn wC b e v c i s' l' w2 := by
  have ff : Foot (fun k => s.ownBlock = some k) wr w' := Foot.grown g fun r hr => hr
  have ht := h.t.foot ff (fun hb => by have := h.apart b hb; omega)
  refine ⟨ht, fun w2 e2 => ?_⟩
  subst e2
  have hs := ht.set 4 (by show 4 < 5; decide) s'
  exact ⟨hs, o.only (Only.setCell w' ⟨b, 4, none⟩ s') (fun hb => by have := o.block b hb; have := h.m; omega), (h.f.trans (S' := fun k => s.ownBlock = some k) (fun k hk => .inr (h.o.block k hk)) ff).same (Foot.setCell (S := fun k => k = b) (p := ⟨b, 4, none⟩) rfl), h.m⟩
end Go.Proofs.Ytebfihghfkcicaa
