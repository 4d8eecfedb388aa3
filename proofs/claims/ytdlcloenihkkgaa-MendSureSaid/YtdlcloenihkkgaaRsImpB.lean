/-
  What parity of package rs makes: for 191 bytes, the 64 bytes that make them a word. The memory that was there stays.
-/
import Derived.Lib.LazyBuf
import Derived.WalkMore
import Derived.Deep.MidRow
import Derived.ScopeJumps
import Derived.Test.YtdlcloenihkkgaaRsReg
import Derived.Test.YtdlcloenihkkgaaRsImpA
namespace Go.Proofs.Ytdlcloenihkkgaa
open Go.RowKit Go.Shelf Gf
set_option maxRecDepth 100000
theorem Blk.makeT (w : World) (n : Nat) (t : TypeId) : Blk w.heap.size (z8 n) (w.alloc (.cells (zr n) t)) := by
  have hz : (z8 n).length = n := List.length_replicate
  refine ⟨by simp, fun i hi => ?_, fun i _ => World.frozen?_alloc_new _ _ _ _⟩
  rw [World.cell?_alloc_new]
  have h1 : (zr n).toList[i]? = ((z8 n).map B)[i]? := by rw [zr_toList]
  rw [Array.getElem?_toList] at h1
  rw [h1, List.getElem?_map, List.getElem?_eq_getElem hi, cf_lt hi]; rfl
theorem zero64 (w : World) : (zeroValue 82).run Try.prog w = .ok (.agg (zr 64)) w := by
  rw [Try.zeroValue82 w]
  have e : ∀ a b : Array Value, a.toList = b.toList → Result.ok (Value.agg a) w = .ok (.agg b) w := fun a b h => by rw [Array.ext' h]
  refine e _ _ ?_
  rw [zr_toList]
  kernel_rfl
theorem alloc64 (w : World) : (Instr.alloc 82 true (.tuple #[])).run Try.prog w = .ok (.pointer (some ⟨w.heap.size, 0, none⟩)) (w.alloc (.cells (zr 64) 82)) := by
  simp only [Instr.alloc, Sem.run_bind, zero64, Result.andThen_ok]
  rfl
theorem wpList_a64 {ops : Array Oper} {rest : List Oper} {o : Oper} {a : Act} {w : World} {Q : Exit → Act → World → Prop} (hg : o.guard = none) (ho : o.op = .alloc 82)
    (h : wpList Try.prog ops Q rest (a.put o.dst (.pointer (some ⟨w.heap.size, 0, none⟩))) (w.alloc (.cells (zr 64) 82))) : wpList Try.prog ops Q (o :: rest) a w := by
  refine wpList_plain hg fun _ hK => ?_
  have e : (execOp a.eval o).run Try.prog w = .ok (.value (.pointer (some ⟨w.heap.size, 0, none⟩))) (w.alloc (.cells (zr 64) 82)) := by
    unfold execOp
    simp only [ho, Sem.run_bind, alloc64, Result.andThen_ok]
    rfl
  unfold Oper.wp
  rw [e, Oper.upon_value]
  exact hK _ _ h
theorem Does.copy {P : Program} {o : Oper} {ρ : Operand → Value} {w : World} {R : Value → World → Prop} (d s : Operand) (ats : Array TypeId) (ho : o.op = Op.call { callee := Callee.builtin Builtin.copy, args := #[d, s], argTypes := ats }) {ty : TypeId} (hty : o.type = ty)
    {vd vs v : Value} {w' : World} (hd : ρ d = vd) (hs : ρ s = vs) (hrun : (Builtin.copy_ ats ty #[vd, vs]).run P w = .ok v w') (h : R v w') : Does P o ρ w R := by
  unfold Does
  have e : (execOp ρ o).run P w = .ok (.value v) w' := by
    unfold execOp
    simp [ho, resolve, invoke, builtin, hd, hs, hty, hrun, Result.andThen]
  rw [e]; exact h
theorem _root_.Go.RowKit.Below.eqvL {B : Nat} {w w' w'' : World} (h : Below B w' w'') (e : Eqv w w') : Below B w w'' :=
  ⟨h.os.trans e.os, h.tape.trans e.tape, h.output.trans e.output, by rw [← e.heap]; exact h.size, fun k hk => (h.block k hk).trans (by rw [e.heap])⟩
theorem only_setCells (b : Nat) : ∀ (vs : List Value) (o : Nat) (w : World), Only b w (w.setCells b o vs)
  | [], _, w => Only.refl b w
  | v :: r, o, w => (Only.setCell w ⟨b, o, none⟩ v).trans (only_setCells b r (o + 1) _)
/-- Bytes that are written over others. -/
theorem Blk.put {b : Nat} {l : List UInt8} {w : World} (h : Blk b l w) (o : Nat) (vs l' : List UInt8) (ho : o + vs.length ≤ l.length) (hl : l'.length = l.length) (hc : ∀ i, i < l.length → cf l' i = if o ≤ i ∧ i < o + vs.length then cf vs (i - o) else cf l i) :
    Blk b l' (w.setCells b o (vs.map B)) := by
  refine ⟨Nat.lt_of_lt_of_le h.old (only_setCells b _ o w).size, fun i hi => ?_, fun i hi => ?_⟩
  · rw [hl] at hi
    rw [hc i hi]
    by_cases e : o ≤ i ∧ i < o + vs.length
    · rw [if_pos e]
      have hj : i - o < (vs.map B).length := by rw [List.length_map]; omega
      have h2 := World.cell?_setCells_in b (vs.map B) o w (fun j hj => by
        rw [List.length_map] at hj
        rw [h.cell (o + j) (by omega)]; rfl) (i - o) hj
      rw [show o + (i - o) = i by omega, List.getElem_map] at h2
      rw [h2, cf_lt (by omega)]; rfl
    · rw [if_neg e, World.cell?_setCells_out b _ _ _ _ (fun _ _ => by
        rw [List.length_map]
        show i < o ∨ o + vs.length ≤ i
        omega)]
      exact h.cell i hi
  · rw [hl] at hi
    rw [World.frozen?_setCells]; exact h.free i hi
theorem size8 : ∀ w, (Go.sizeOf 5).run Try.prog w = .ok 1 w := Try.sizeOf5
/-- 'copy(row, s)', s a string that is longer than the row. -/
theorem copy_long {b : Nat} {l : List UInt8} {w : World} (h : Blk b l w) (t : ByteArray) (ty : TypeId) (hl : l.length ≤ t.size) :
    (Builtin.copy_ #[34, 9] ty #[.slice (some ⟨b, 0, none⟩) l.length l.length, .string t]).run Try.prog w = .ok (.int .i64 (l.length : Int)) (w.setCells b 0 (((ls t).take l.length).map B)) := by
  have hmin : Nat.min t.size l.length = l.length := Nat.min_eq_right hl
  have hn : ((ls t).take l.length).length = l.length := by rw [List.length_take, ← ls_size]; omega
  have hst := run_storeCells_cells (P := Try.prog) b 0 (((ls t).take l.length).map B) 0 w (by rw [List.length_map, hn]; intro j hj; rw [Nat.zero_add, h.cell j hj]; rfl) (by rw [List.length_map, hn]; intro j hj; rw [Nat.zero_add]; exact h.free j hj) (by
    intro v hv
    obtain ⟨x, _, rfl⟩ := List.mem_map.1 hv
    rfl)
  have e : List.take l.length (List.map (fun b => Value.int IntKind.u8 (b.toNat : Int)) t.data.toList) = ((ls t).take l.length).map B := by rw [List.map_take]; rfl
  simp [Builtin.copy_, run_underlying Try.underlying34, Builtin.lenOf, Builtin.firstCells, hmin]
  rw [e, hst]
  simp [goInt]
/-- 'copy(row[1:], row[:])'. -/
theorem copy_on {b : Nat} {l : List UInt8} {w : World} (h : Blk b l w) (ty : TypeId) (n : Nat) (hn : l.length = n + 1) (c1 c2 : Nat) :
    (Builtin.copy_ #[34, 34] ty #[.slice (some ⟨b, 1, none⟩) n c1, .slice (some ⟨b, 0, none⟩) (n + 1) c2]).run Try.prog w = .ok (.int .i64 (n : Int)) (w.setCells b 1 ((l.take n).map B)) := by
  have hm : ((l.take n).map B).length = n := by rw [List.length_map, List.length_take]; omega
  have hs : (Try.prog.info? 5).map (·.size) = some 1 := by kernel_rfl
  have e := run_copy_cells (P := Try.prog) w 34 34 ty 5 b 1 n c1 ⟨b, 0, none⟩ (n + 1) c2 ((l.take n).map B) Try.underlying34 hs (by rw [hm]; exact (Nat.min_eq_right (Nat.le_succ n)).symm) (by
    intro j v hj
    have hlt : j < n := by rw [← hm]; exact (List.getElem?_eq_some_iff.1 hj).1
    rw [show (⟨b, 0, none⟩ : Addr).add j = ⟨b, j, none⟩ by rw [Addr.add_mid, Nat.zero_add], h.cell j (by omega), ← hj, List.getElem?_map, List.getElem?_take_of_lt hlt, List.getElem?_eq_getElem (by omega), cf_lt (by omega)]
    rfl) (by rw [hm]; intro j hj; rw [h.cell (1 + j) (by omega)]; rfl) (by rw [hm]; intro j hj; exact h.free (1 + j) (by omega)) (by
    intro v hv
    obtain ⟨x, _, rfl⟩ := List.mem_map.1 hv
    rfl)
  rw [hm] at e
  rw [e]; rfl
theorem Blk.load64 {b : Nat} {l : List UInt8} {w : World} (h : Blk b l w) (hl : l.length = 64) :
    (Instr.loadAt 82 (.pointer (some ⟨b, 0, none⟩))).run Try.prog w = .ok (.agg (l.map B).toArray) w :=
  run_loadAt_mid w b 0 82 (l.map B) _ (by
    intro j v hj
    have hlt : j < l.length := by have := (List.getElem?_eq_some_iff.1 hj).1; rwa [List.length_map] at this
    rw [Nat.zero_add, h.cell j hlt, ← hj, List.getElem?_map, List.getElem?_eq_getElem hlt, cf_lt hlt]
    rfl) Try.underlying82 rfl (by rw [List.length_map, hl]; kernel_rfl)
theorem index64 {l : List UInt8} (hl : l.length = 64) (k : Nat) (hk : k < 64) (w : World) :
    (Instr.index 82 (.agg (l.map B).toArray) (.int .i64 (k : Int))).run Try.prog w = .ok (.int .u8 ((cf l k).toNat : Int)) w := by
  have hg : (l.map B)[k]? = some (.int .u8 ((cf l k).toNat : Int)) := by rw [List.getElem?_map, List.getElem?_eq_getElem (by omega), cf_lt (by omega)]; rfl
  rw [List.getElem?_map] at hg
  simp [Instr.index, run_underlying Try.underlying82, asIntOf, Try.sizeOf5, part, Try.isAgg5, hk, hg]
theorem wpList_ld64 {ops : Array Oper} {rest : List Oper} {o : Oper} {a : Act} {w : World} {Q : Exit → Act → World → Prop} (hg : o.guard = none) (x : Operand) (ho : o.op = .load 82 x) {b : Nat} {l : List UInt8} {TA : Array Value} (hb : Blk b l w) (hl : l.length = 64) (hTA : (l.map B).toArray = TA)
    (hx : a.eval x = .pointer (some ⟨b, 0, none⟩)) (h : wpList Try.prog ops Q rest (a.put o.dst (.agg TA)) w) : wpList Try.prog ops Q (o :: rest) a w := by
  refine wpList_plain hg fun _ hK => ?_
  have e : (execOp a.eval o).run Try.prog w = .ok (.value (.agg TA)) w := by
    unfold execOp
    simp only [ho, hx, Sem.run_bind, hb.load64 hl, Result.andThen_ok, hTA]
    rfl
  unfold Oper.wp
  rw [e, Oper.upon_value]
  exact hK _ _ h
theorem get64 {l : List UInt8} {TA : Array Value} (hTA : (l.map B).toArray = TA) (k : Nat) (hk : k < l.length) : TA[k]? = some (.int .u8 ((cf l k).toNat : Int)) := by
  rw [← hTA, List.getElem?_toArray, List.getElem?_map, List.getElem?_eq_getElem hk, cf_lt hk]; rfl
theorem taps_put (l : List UInt8) (hl : l.length = 64) : ∀ i, i < l.length → cf taps i = if 0 ≤ i ∧ i < 0 + ((ls (st gen)).take l.length).length then cf ((ls (st gen)).take l.length) (i - 0) else cf l i := fun i hi => by
  have e : (ls (st gen)).take l.length = taps := by rw [ls_st, hl]; rfl
  rw [e, taps_length, if_pos (by omega), Nat.sub_zero]
theorem shift_put {R : List UInt8} (hR : R.length = 64) : ∀ i, i < R.length → cf (cf R 0 :: R.take 63) i = if 1 ≤ i ∧ i < 1 + (R.take 63).length then cf (R.take 63) (i - 1) else cf R i := fun i hi => by
  have hl : (R.take 63).length = 63 := by rw [List.length_take]; omega
  cases i with
  | zero => rw [if_neg (by omega)]; rfl
  | succ i => rw [if_pos (by omega), cf_succ]; rfl
theorem copy_taps {b : Nat} {l : List UInt8} {w : World} (h : Blk b l w) (hl : l.length = 64) (ty : TypeId) :
    ∃ w', (Builtin.copy_ #[34, 9] ty #[.slice (some ⟨b, 0, none⟩) 64 64, .string (st gen)]).run Try.prog w = .ok (.int .i64 64) w' ∧ Blk b taps w' ∧ Only b w w' := by
  have e := copy_long h (st gen) ty (by rw [st_size, rs_gen_length, hl]; omega)
  have h2 : l.length = 64 := hl
  refine ⟨_, ?_, h.put 0 ((ls (st gen)).take l.length) taps (by rw [List.length_take, ls_st, rs_gen_length]; omega) (by rw [taps_length, hl]) (taps_put l hl), only_setCells b _ 0 w⟩
  rw [hl] at e ⊢; exact e
theorem copy_shift {b : Nat} {R : List UInt8} {w : World} (h : Blk b R w) (hR : R.length = 64) (ty : TypeId) :
    ∃ w', (Builtin.copy_ #[34, 34] ty #[.slice (some ⟨b, 1, none⟩) 63 63, .slice (some ⟨b, 0, none⟩) 64 64]).run Try.prog w = .ok (.int .i64 63) w' ∧ Blk b (cf R 0 :: R.take 63) w' ∧ Only b w w' :=
  ⟨_, copy_on h ty 63 hR 63 64, h.put 1 (R.take 63) _ (by rw [List.length_take]; omega) (by rw [List.length_cons, List.length_take]; omega) (shift_put hR), only_setCells b _ 1 w⟩
def ParPost (w0 : World) (d : List UInt8) (e : Ending) (w' : World) : Prop := ∃ p : List UInt8, e = .returned (.string (st p)) ∧ p.length = 64 ∧ IsWord (d ++ p) ∧ Keeps w0 w'
/-- What holds behind k bytes. -/
def parRel (wB : World) (rb : Nat) (D : List UInt8) (i : Value) (wr : World) : Prop := ∃ (k : Nat) (R : List UInt8), k ≤ D.length ∧ i = .int .i64 k ∧ RegAt (D.take k) R ∧ Blk rb R wr ∧ Only rb wB wr
set_option maxRecDepth 100000 in
set_option maxHeartbeats 4000000 in
theorem parity_any (w0 : World) (s : ByteArray) (w : World) (hs : s.size = 191) (hk : Keeps w0 w) :
    Calls Try.prog 45 #[.string s] w (ParPost w0 (ls s)) := by
  go_enter Try.func45, Try.ntmps45
  go_wp2
  refine scope_loop (rest := ?rest) 0 (fun _ _ => False) (fun _ _ => 0) ?hf ?pass ?first
  case hf => rfl
  case pass => exact fun _ _ h => h.elim
  case first =>
    intro hno
    clear hno
    go_wp2_with fail
    refine (new_any w).mono ?_
    rintro e w1 ⟨rfl, hf, hbel⟩
    go_wp2_with (with_reducible refine wpList_a64 rfl rfl ?_)
    go_simp
    have hT := Blk.makeT w1 64 82
    have hR := Blk.makeT (w1.alloc (.cells (zr 64) 82)) 64 82
    rw [World.size_alloc] at hR
    have hT2 := hT.below ((Below.refl _ _).alloc (Nat.le_refl _) (.cells (zr 64) 82))
    have hf2 := (hf.below hf.old ((Below.refl _ w1).alloc (Nat.le_refl _) (.cells (zr 64) 82)))
    have hf3 := hf2.below hf2.old ((Below.refl _ _).alloc (Nat.le_refl _) (.cells (zr 64) 82))
    have hk3 := (((hk.trans hbel).alloc (.cells (zr 64) 82)).alloc (.cells (zr 64) 82))
    have hs3 := Below.size (hk.trans hbel)
    have ho3 := hf.old
    clear hT hf hf2 hbel hk
    obtain ⟨fb, hfb⟩ : ∃ fb, w.heap.size = fb := ⟨_, rfl⟩
    obtain ⟨tb, htb⟩ : ∃ tb, w1.heap.size = tb := ⟨_, rfl⟩
    obtain ⟨rb, hrb⟩ : ∃ rb, tb + 1 = rb := ⟨_, rfl⟩
    obtain ⟨wA, hwA⟩ : ∃ wA, (w1.alloc (.cells (zr 64) 82)).alloc (.cells (zr 64) 82) = wA := ⟨_, rfl⟩
    rw [hwA] at hR hT2 hf3 hk3
    rw [htb] at hR hT2 hs3 ho3
    rw [hrb] at hR
    rw [hfb] at hf3 ho3
    rw [hwA, htb, hrb, hfb]
    have n1 : tb ≠ rb := by omega
    have n2 : fb ≠ rb := by omega
    have n3 : fb ≠ tb := by omega
    have n4 : w0.heap.size ≤ rb := by omega
    clear hwA htb hrb hfb ho3
    have hgen : ∀ W : World, Calls Try.prog 65 #[] W fun e w' => e = .returned (.string (st gen)) ∧ Keeps W w' := fun W => rsgen_any W W (Keeps.refl _)
    have hcop : ∀ (l : List UInt8) (W : World), Blk tb l W → l.length = 64 → ∃ w', (Builtin.copy_ #[34, 9] 3 #[.slice (some ⟨tb, 0, none⟩) 64 64, .string (st gen)]).run Try.prog W = .ok (.int .i64 64) w' ∧ Blk tb taps w' ∧ Only tb W w' := fun l W h1 h2 => copy_taps h1 h2 _
    have htl := taps_length
    generalize st gen = G at hgen hcop
    have HZ := Lib.hid (z8_len 64)
    have hR0 := reg_zero
    obtain ⟨Z, hZ⟩ : ∃ Z, z8 64 = Z := ⟨_, rfl⟩
    rw [hZ] at HZ hR0 hT2 hR
    clear hZ
    obtain ⟨TP, htp⟩ : ∃ TP, taps = TP := ⟨_, rfl⟩
    rw [htp] at htl
    simp only [htp] at hcop
    refine wp_draw (by kernel_rfl)
        [.slice (some ⟨tb, 0, none⟩) 64 64, .string G, .int .i64 64]
        (Turn 1 2 (Eqv wA) (fun W => Below wA.heap.size wA W) (fun W => Blk tb TP W ∧ Only tb wA W))
        rfl (by kernel_rfl) (fin := ?fin) ?hfin (Turn.start (Eqv.drew wA)) ?each ?hend
    case hfin => simp [seqA, dstOf, Act.put]; rfl
    case each =>
      refine ⟨?_, ?_, ?_, trivial⟩
      all_goals intro L w2 h0 hd hs hw
      all_goals try simp only [Nat.zero_add, Nat.reduceAdd] at h0
      · unfold Does
        go_simp; exact fun L' k => hw.same (by decide) (by decide) k
      · have hA := hw.1 h0
        unfold Does
        go_simp
        refine (hgen w2).mono ?_
        rintro e w3 ⟨rfl, hb⟩
        exact ⟨_, rfl, rfl, fun L' k => Turn.first (hs.no (by kernel_rfl) h0) (by decide) k (by rw [← hA.size]; exact (Below.mono (show Below w2.heap.size w2 w3 from hb) (Nat.le_refl _)).eqvL hA)⟩
      · have hB := hw.2.1 (hd 1 (by kernel_rfl)) h0
        have hBT := hT2.below hB
        obtain ⟨w3, hcp, hb3, ho3⟩ := hcop Z w2 hBT HZ.out
        exact Does.copy _ _ _ rfl rfl rfl rfl hcp ⟨fun _ => rfl, fun L' k => Turn.second (hd 1 (by kernel_rfl)) k ⟨hb3, (Only.below hB).trans ho3⟩⟩
    case hend =>
      intro L w2 hL hw
      obtain ⟨hT3, hO3⟩ := hw.2.2 (hL 2 (by simp))
      clear hw hL
      go_wp2
      refine wp_label ?_
      have hR3 := hR.only n1.symm hO3
      have hf4 := hf3.only n3 hO3
      have hk4 := hO3.keeps hk3 hs3
      have HS := Lib.hid hs
      have hsz : s.size ≤ 1000 := by omega
      have HR0 := Lib.hid hR0
      clear hs hgen hcop hR0 hO3 hT2 hR hf3 hk3
      go_wp2
      go_loopw [16] (fun i wr => parRel w2 rb (ls s) i wr) (fun i _ => s.size - (intOf i).toNat)
      case atStart => exact ⟨0, Z, Nat.zero_le _, rfl, HR0.out, hR3, Only.refl _ _⟩
      case round =>
        obtain ⟨k, R, hk, rfl, hreg, hblk, hon⟩ := hrel
        rw [← ls_size] at hk
        by_cases hlt : k < s.size
        · have hgt := ls_get s k hlt
          have HRL := Lib.hid hreg.1
          have HRG := Lib.hid hreg
          have HTK := Lib.hid (show (ls s).take k ++ [cf (ls s) k] = (ls s).take (k + 1) by rw [List.take_succ_eq_append_getElem (by rw [← ls_size]; exact hlt), cf_lt (by rw [← ls_size]; exact hlt)])
          have hc63 := hblk.cell 63 (by rw [hreg.1]; omega)
          have hbo := hblk.old
          clear hreg
          generalize hq : cf (ls s) k = q at *
          obtain ⟨y, hy⟩ : ∃ y, cf R 63 = y := ⟨_, rfl⟩
          obtain ⟨o, ho⟩ : ∃ o, q ^^^ y = o := ⟨_, rfl⟩
          rw [hy] at hc63
          have hat : ∀ (g : Nat) (W : World), W.cell? ⟨g, 0, none⟩ = some (.int .u8 (q.toNat : Int)) → W.cell? ⟨g, 1, none⟩ = some (.int .u8 (y.toNat : Int)) → Calls Try.prog 56 #[.slice (some ⟨g, 0, none⟩) 2 2] W fun e w' => e = .returned (.int .u8 (o.toNat : Int)) ∧ W = w' := fun g W h k => by rw [← ho]; exact add8 g q y W h k
          obtain ⟨X, hX⟩ : ∃ X : Obj, X = .cells #[.int .u8 (q.toNat : Int), .int .u8 (y.toNat : Int)] 5 := ⟨_, rfl⟩
          have x0 : (wr.alloc X).cell? ⟨wr.heap.size, 0, none⟩ = some (.int .u8 (q.toNat : Int)) := by subst hX; rw [World.cell?_alloc_new]; rfl
          have x1 : (wr.alloc X).cell? ⟨wr.heap.size, 1, none⟩ = some (.int .u8 (y.toNat : Int)) := by subst hX; rw [World.cell?_alloc_new]; rfl
          have HX := Lib.hid hX
          have HY := Lib.hid hy
          have HO := Lib.hid ho
          have kP : (k : Int) < (s.size : Int) := by omega
          clear hX hy ho hq
          go_wp2
          refine wp_draw (by kernel_rfl)
            [.string s, .int .i64 (k : Int), .int .u8 (q.toNat : Int), .pointer (some ⟨rb, 63, none⟩), .int .u8 (y.toNat : Int), .slice (some ⟨wr.heap.size, 0, none⟩) 2 2, .int .u8 (o.toNat : Int), .int .u8 (o.toNat : Int)]
            (Once 5 (Eqv wr) (Eqv (wr.alloc X)))
            rfl (by kernel_rfl) (fin := ?fin2) ?hfin2 (Once.start (Eqv.drew wr)) ?each2 ?hend2
          case hfin2 => simp [seqA, dstOf, Act.put]; rfl
          case each2 =>
            refine ⟨?_, ?_, ?_, ?_, ?_, ?_, ?_, ?_, trivial⟩
            all_goals intro L w3 h0 hd hs hw
            all_goals unfold Does
            all_goals try simp only [Nat.zero_add, Nat.reduceAdd] at h0
            · go_simp; exact fun L' k => hw.same (by decide) k
            · go_simp; exact fun L' k => hw.same (by decide) k
            · go_simp; exact fun L' k => hw.same (by decide) k
            · go_simp; exact fun L' k => hw.same (by decide) k
            · have hA := hw.1 (hs.no (by kernel_rfl) h0)
              have hc1 := (hA.cell _).trans hc63
              go_simp; exact fun L' k => hw.same (by decide) k
            · have hA := hw.1 h0
              have hz := hA.size
              go_simp
              exact fun L' k => Once.done k (by rw [HX.out]; exact hA.alloc _)
            · have hB := hw.2 (hd 5 (by kernel_rfl))
              have hc1 := (hB.cell _).trans x0
              have hc2 := (hB.cell _).trans x1
              go_simp
              refine (hat _ w3 hc1 hc2).mono ?_
              rintro e w4 ⟨rfl, rfl⟩
              exact ⟨_, rfl, rfl, fun L' k => hw.same (by decide) k⟩
            · go_simp; exact fun L' k => hw.same (by decide) k
          case hend2 =>
            intro L w3 hL hw
            have hC := hw.2 (hL 5 (by simp))
            clear hw hL
            have hblk3 := (hblk.below ((Below.refl _ wr).alloc (Nat.le_refl _) X)).eqv hC
            have hon3 := (hon.trans (Only.alloc rb wr X)).trans (Only.eqv hC)
            clear x0 x1 hC hat hc63 hblk hon hbo
            have hcop : ∀ W : World, Blk rb R W → ∃ w', (Builtin.copy_ #[34, 34] 3 #[.slice (some ⟨rb, 1, none⟩) 63 63, .slice (some ⟨rb, 0, none⟩) 64 64]).run Try.prog W = .ok (.int .i64 63) w' ∧ Blk rb (cf R 0 :: R.take 63) w' ∧ Only rb W w' := fun W h => copy_shift h HRL.out _
            obtain ⟨R1, hR1⟩ : ∃ R1, cf R 0 :: R.take 63 = R1 := ⟨_, rfl⟩
            simp only [hR1] at hcop
            go_wp2
            refine wp_draw (by kernel_rfl)
              [.slice (some ⟨rb, 1, none⟩) 63 63, .slice (some ⟨rb, 0, none⟩) 64 64, .int .i64 63]
              (Once 2 (Eqv w3) (fun W => Blk rb R1 W ∧ Only rb w3 W))
              rfl (by kernel_rfl) (fin := ?fin3) ?hfin3 (Once.start (Eqv.drew w3)) ?each3 ?hend3
            case hfin3 => simp [seqA, dstOf, Act.put]; rfl
            case each3 =>
              refine ⟨?_, ?_, ?_, trivial⟩
              all_goals intro L w4 h0 hd hs hw
              all_goals try simp only [Nat.zero_add, Nat.reduceAdd] at h0
              · unfold Does
                go_simp; exact fun L' k => hw.same (by decide) k
              · unfold Does
                go_simp; exact fun L' k => hw.same (by decide) k
              · have hA := hw.1 h0
                obtain ⟨w5, hcp, hb5, ho5⟩ := hcop w4 (hblk3.eqv hA)
                exact Does.copy _ _ _ rfl rfl rfl rfl hcp ⟨fun _ => rfl, fun L' k => Once.done k ⟨hb5, (Only.eqv hA).trans ho5⟩⟩
            case hend3 =>
              intro L w4 hL hw
              obtain ⟨hb4, ho4⟩ := hw.2 (hL 2 (by simp))
              clear hw hL
              have HR1L := Lib.hid (show R1.length = 64 by rw [← hR1, List.length_cons, List.length_take, HRL.out]; rfl)
              have HSH := Lib.hid (show R1.set 0 0 = shl R by rw [← hR1]; rfl)
              have hc0 := hb4.cell 0 (by rw [HR1L.out]; omega)
              have hz0 := hb4.free 0 (by rw [HR1L.out]; omega)
              have HB5 := Lib.hid (hb4.set (k := 0) (by rw [HR1L.out]; omega) 0)
              have HO5 := Lib.hid ((hon3.trans ho4).trans (Only.setCell w4 ⟨rb, 0, none⟩ (.int .u8 ((0 : UInt8).toNat : Int))))
              rw [HSH.out] at HB5
              have e0 : ((0 : UInt8).toNat : Int) = 0 := rfl
              rw [e0] at HB5 HO5
              clear hR1 hcop hblk3 hon3 ho4
              by_cases hzo : o = 0
              · have hzi : ((o.toNat : Int) == 0) = true := by rw [hzo]; rfl
                have HZO := Lib.hid hzo
                have HLT := Lib.hid hlt
                clear hzo
                go_wp2
                have hlt := HLT.out
                refine ⟨⟨k + 1, shl R, by rw [← ls_size]; omega, by go_num, ?_, HB5.out, HO5.out⟩, by simp [intOf]; omega⟩
                rw [← HTK.out]
                exact reg_still HRG.out (by rw [HY.out, HO.out, HZO.out])
              · have hzi : ((o.toNat : Int) == 0) = false := by rw [beq_eq_false_iff_ne]; have := toNat_ne hzo; omega
                obtain ⟨TA, hTA⟩ : ∃ TA, (TP.map B).toArray = TA := ⟨_, rfl⟩
                have HT5 := Lib.hid (hT3.only n1 HO5.out)
                have HF5 := Lib.hid (hf4.only n2 HO5.out)
                have HL5 := Lib.hid (shl_length HRL.out)
                have HLT := Lib.hid hlt
                go_wp2_with (with_reducible refine wpList_ld64 rfl _ rfl HT5.out htl hTA rfl ?_)
                go_simp
                have hB5 := HB5.out
                have hO5 := HO5.out
                have hF5 := HF5.out
                clear HB5 HO5 HF5 HT5 hc0 hz0 hb4
                obtain ⟨w5, hw5⟩ : ∃ w5, w4.setCell ⟨rb, 0, none⟩ (.int .u8 0) = w5 := ⟨_, rfl⟩
                rw [hw5] at hB5 hO5 hF5
                rw [hw5]
                obtain ⟨R5, hR5⟩ : ∃ R5, shl R = R5 := ⟨_, rfl⟩
                rw [hR5] at hB5 HL5 HSH
                clear hw5
                go_loopw [33] (fun i wx => tiRel rb R5 0 o TP w5 i wx) (fun i _ => 64 - (intOf i).toNat)
                case atStart => exact ⟨0, by omega, rfl, by rw [atRow_zero]; exact hB5, Only.refl _ _⟩
                case round =>
                  obtain ⟨n, hn, rfl, hbx, hox⟩ := hrel
                  by_cases hnl : n < 64
                  · have hr1 : n < (atRow R5 0 o TP n).length := by rw [atRow_length, HL5.out]; exact hnl
                    have hc1 := hbx.cell n hr1
                    have hz1 := hbx.free n hr1
                    have hfx := hF5.only n2 hox
                    have HN := Lib.hid (atRow_succ (off := 0) (k := n) (c := o) (p := TP) (show 0 + n < R5.length by rw [HL5.out]; omega))
                    rw [Nat.zero_add] at HN
                    have hix : ∀ W : World, (Instr.index 82 (.agg TA) (.int .i64 (n : Int))).run Try.prog W = .ok (.int .u8 ((cf TP n).toNat : Int)) W := fun W => by rw [← hTA]; exact index64 htl n hnl W
                    have HTA := Lib.hid hTA
                    clear hTA
                    obtain ⟨r, hr⟩ : ∃ r, atRow R5 0 o TP n = r := ⟨_, rfl⟩
                    rw [hr] at hr1 hc1 hbx HN
                    obtain ⟨yy, hyy⟩ : ∃ yy, cf r n = yy := ⟨_, rfl⟩
                    rw [hyy] at hc1 HN
                    obtain ⟨qq, hqq⟩ : ∃ qq, cf TP n = qq := ⟨_, rfl⟩
                    rw [hqq] at HN
                    simp only [hqq] at hix
                    obtain ⟨t, ht⟩ : ∃ t, fm o qq = t := ⟨_, rfl⟩
                    rw [ht] at HN
                    obtain ⟨z, hz⟩ : ∃ z, yy ^^^ t = z := ⟨_, rfl⟩
                    rw [hz] at HN
                    have hft : ∀ W : World, FieldAt fb W → Calls Try.prog 59 #[.pointer (some ⟨fb, 0, none⟩), .int .u8 (o.toNat : Int), .int .u8 (qq.toNat : Int)] W fun e w' => e = .returned (.int .u8 (t.toNat : Int)) ∧ Eqv W w' := fun W h => by rw [← ht]; exact fmul8 fb o qq W h
                    have hat : ∀ (g : Nat) (W : World), W.cell? ⟨g, 0, none⟩ = some (.int .u8 (yy.toNat : Int)) → W.cell? ⟨g, 1, none⟩ = some (.int .u8 (t.toNat : Int)) → Calls Try.prog 56 #[.slice (some ⟨g, 0, none⟩) 2 2] W fun e w' => e = .returned (.int .u8 (z.toNat : Int)) ∧ W = w' := fun g W h k => by rw [← hz]; exact add8 g yy t W h k
                    have HT := Lib.hid ht
                    have HZZ := Lib.hid hz
                    have nI : (n : Int) < 64 := by omega
                    obtain ⟨X, hX⟩ : ∃ X : Obj, X = .cells #[.int .u8 (yy.toNat : Int), .int .u8 (t.toNat : Int)] 5 := ⟨_, rfl⟩
                    obtain ⟨ad, had⟩ : ∃ ad : Addr, ad = ⟨rb, n, none⟩ := ⟨_, rfl⟩
                    have hbl : rb < wr.heap.size := hbx.old
                    have x0 : (wr.alloc X).cell? ⟨wr.heap.size, 0, none⟩ = some (.int .u8 (yy.toNat : Int)) := by subst hX; rw [World.cell?_alloc_new]; rfl
                    have x1 : (wr.alloc X).cell? ⟨wr.heap.size, 1, none⟩ = some (.int .u8 (t.toNat : Int)) := by subst hX; rw [World.cell?_alloc_new]; rfl
                    have x2 : (wr.alloc X).cell? ⟨rb, n, none⟩ = some (.int .u8 (yy.toNat : Int)) := ((((Below.refl _ wr).alloc (Nat.le_refl _) X)).cell (p := ⟨rb, n, none⟩) hbl).trans hc1
                    have x3 : (wr.alloc X).frozen? ⟨rb, n, none⟩ = false := ((((Below.refl _ wr).alloc (Nat.le_refl _) X)).frozen (p := ⟨rb, n, none⟩) hbl).trans hz1
                    have HXX := Lib.hid hX
                    have HAD := Lib.hid had
                    clear hX had ht hz hqq hyy hr
                    go_wp2
                    refine wp_draw (by kernel_rfl)
                      [.int .i64 (n : Int), .int .i64 (n : Int), .pointer (some ⟨rb, n, none⟩), .int .u8 (yy.toNat : Int), .pointer (some ⟨fb, 0, none⟩), .int .u8 (o.toNat : Int), .int .u8 (qq.toNat : Int), .int .u8 (t.toNat : Int), .slice (some ⟨wr.heap.size, 0, none⟩) 2 2, .int .u8 (z.toNat : Int), .pointer (some ⟨rb, n, none⟩), undef]
                      (Turn 8 11 (Eqv wr) (Eqv (wr.alloc X)) (Eqv ((wr.alloc X).setCell ad (.int .u8 (z.toNat : Int)))))
                      rfl (by kernel_rfl) (fin := ?fin4) ?hfin4 (Turn.start (Eqv.drew wr)) ?each4 ?hend4
                    case hfin4 => simp [seqA, dstOf, Act.put]; rfl
                    case each4 =>
                      refine ⟨?_, ?_, ?_, ?_, ?_, ?_, ?_, ?_, ?_, ?_, ?_, ?_, trivial⟩
                      all_goals intro L w6 h0 hd hs hw
                      all_goals unfold Does
                      all_goals try simp only [Nat.zero_add, Nat.reduceAdd] at h0
                      · go_simp; exact fun L' k => hw.same (by decide) (by decide) k
                      · go_simp; exact fun L' k => hw.same (by decide) (by decide) k
                      · go_simp; exact fun L' k => hw.same (by decide) (by decide) k
                      · have hA := hw.1 (hs.no (by kernel_rfl) h0)
                        have hc2 := (hA.cell ⟨rb, n, none⟩).trans hc1
                        go_simp; exact fun L' k => hw.same (by decide) (by decide) k
                      · go_simp; exact fun L' k => hw.same (by decide) (by decide) k
                      · go_simp; exact fun L' k => hw.same (by decide) (by decide) k
                      · go_simp; exact fun L' k => hw.same (by decide) (by decide) k
                      · have hA := hw.1 (hs.no (by kernel_rfl) h0)
                        go_simp
                        refine (hft w6 (hfx.only (b := rb) n2 (Only.eqv hA))).mono ?_
                        rintro e w7 ⟨rfl, he⟩
                        exact ⟨_, rfl, rfl, fun L' k => hw.keep (by decide) (by decide) k (fun h => h.trans he) (fun h => h.trans he) (fun h => h.trans he)⟩
                      · have hA := hw.1 h0
                        have hz := hA.size
                        go_simp
                        exact fun L' k => Turn.first (hs.no (by kernel_rfl) h0) (by decide) k (by rw [HXX.out]; exact hA.alloc _)
                      · have hB := hw.2.1 (hd 8 (by kernel_rfl)) (hs.no (by kernel_rfl) h0)
                        have hc2 := (hB.cell _).trans x0
                        have hc3 := (hB.cell _).trans x1
                        go_simp
                        refine (hat _ w6 hc2 hc3).mono ?_
                        rintro e w7 ⟨rfl, rfl⟩
                        exact ⟨_, rfl, rfl, fun L' k => hw.same (by decide) (by decide) k⟩
                      · go_simp; exact fun L' k => hw.same (by decide) (by decide) k
                      · have h8 := hd 9 (by kernel_rfl)
                        have h8 : L 8 = true := hs 9 8 h8 (by kernel_rfl)
                        have hB := hw.2.1 h8 h0
                        have hc2 := (hB.cell _).trans x2
                        have hc3 := (hB.frozen _).trans x3
                        go_simp
                        exact fun L' k => Turn.second h8 k (by rw [HAD.out]; exact hB.setCell _ _)
                    case hend4 =>
                      intro L w6 hL hw
                      have hC := hw.2.2 (hL 11 (by simp))
                      clear hw hL
                      have had := HAD.out
                      subst had
                      have HBN := Lib.hid (((hbx.below ((Below.refl _ wr).alloc (Nat.le_refl _) X)).set hr1 z).eqv hC)
                      have HON := Lib.hid ((hox.trans (Only.alloc rb wr X)).trans ((Only.setCell (wr.alloc X) ⟨rb, n, none⟩ _).trans (Only.eqv hC)))
                      rw [HN.out] at HBN
                      clear hC x0 x1 x2 x3
                      go_wp2
                      go_roundw
                      case rel => exact ⟨n + 1, by omega, by go_num, HBN.out, HON.out⟩
                      case measure => simp [intOf]; omega
                  · have HE := Lib.hid (show n = 64 by omega)
                    have hge : 64 ≤ (n : Int) := by omega
                    rw [HE.out] at hbx
                    have HB6 := Lib.hid hbx
                    have HO6 := Lib.hid (hO5.trans hox)
                    clear hbx hox
                    go_wp2
                    have hlt := HLT.out
                    refine ⟨⟨k + 1, _, by rw [← ls_size]; omega, by go_num, ?_, HB6.out, HO6.out⟩, by simp [intOf]; omega⟩
                    rw [← HTK.out, ← hR5, ← htp]
                    exact reg_next HRG.out (by rw [HY.out, HO.out])
        · have HE := Lib.hid (show (ls s).take k = ls s from List.take_of_length_le (by rw [← ls_size]; omega))
          rw [HE.out] at hreg
          have HRG := Lib.hid hreg
          have hcv := hblk.whole 64 (n := 64) hreg.1.symm
          have HRL := Lib.hid (show (st R).size ≤ 1000000 by rw [st_size, hreg.1]; omega)
          have hkk := hon.keeps hk4 n4
          have hjl : (s.size : Int) ≤ (k : Int) := by omega
          clear hreg
          go_wp2_with fail
          refine (reversed_any w0 _ wr HRL.out hkk).mono ?_
          rintro e w3 ⟨rfl, hk5⟩
          rw [ls_st]
          go_wp2
          show bodyPost Try.prog Try.f45 (ParPost w0 (ls s)) Exit.ret _ _
          go_ret
          exact ⟨_, rfl, by rw [List.length_reverse]; exact HRG.out.1, reg_word (by rw [← ls_size]; exact HS.out) HRG.out, hk5⟩
end Go.Proofs.Ytdlcloenihkkgaa
