/-
  Times in memory; what kept, Check and bit of package times answer, and the document's Check, Number, Bytes and Of. The memory that was there stays.
-/
import Derived.Laws.StructEq
import Derived.Test.YtdpgphidielajaaBase
import Derived.Test.YtdpgphidielajaaTmMath
namespace Go.Proofs.Ytdpgphidielajaa
open Go.RowKit Gf Tm
set_option maxRecDepth 100000
abbrev tmC (s : Tms) : List Value := [.int .i64 s.dt, .bool s.tb, .bool s.fr, .int .i64 s.ad]
abbrev tmV (s : Tms) : Value := .agg #[.int .i64 s.dt, .bool s.tb, .bool s.fr, .int .i64 s.ad]
theorem tmC_one (s : Tms) : ∀ u ∈ tmC s, u.oneCell' = true := by
  intro u hu
  simp only [tmC, List.mem_cons, List.not_mem_nil, or_false] at hu
  rcases hu with rfl | rfl | rfl | rfl <;> rfl
/-- Block b holds the times s, which may be written. -/
structure TmAt (b : Nat) (s : Tms) (w : World) : Prop where
  c0 : w.cell? ⟨b, 0, none⟩ = some (.int .i64 s.dt)
  c1 : w.cell? ⟨b, 1, none⟩ = some (.bool s.tb)
  c2 : w.cell? ⟨b, 2, none⟩ = some (.bool s.fr)
  c3 : w.cell? ⟨b, 3, none⟩ = some (.int .i64 s.ad)
  fz : ∀ i, i < 4 → w.frozen? ⟨b, i, none⟩ = false
theorem TmAt.old {b : Nat} {s : Tms} {w : World} (h : TmAt b s w) : b < w.heap.size := by
  obtain ⟨o, ho, _⟩ := cells_of_cell h.c0
  exact (Array.getElem?_eq_some_iff.1 ho).1
theorem TmAt.block {b : Nat} {s : Tms} {w w' : World} (h : TmAt b s w) (hb : w'.heap[b]? = w.heap[b]?) : TmAt b s w' := by
  have kc : ∀ i, w'.cell? ⟨b, i, none⟩ = w.cell? ⟨b, i, none⟩ := fun i => World.cell?_of_block (w := w) (a := ⟨b, i, none⟩) hb
  have kf : ∀ i, w'.frozen? ⟨b, i, none⟩ = w.frozen? ⟨b, i, none⟩ := fun i => World.frozen?_of_block (w := w) (a := ⟨b, i, none⟩) hb
  exact ⟨(kc 0).trans h.c0, (kc 1).trans h.c1, (kc 2).trans h.c2, (kc 3).trans h.c3, fun i hi => (kf i).trans (h.fz i hi)⟩
theorem TmAt.eqv {b : Nat} {s : Tms} {w w' : World} (h : TmAt b s w) (k : Eqv w w') : TmAt b s w' := h.block (by rw [k.heap])
theorem TmAt.keeps {b : Nat} {s : Tms} {w w' : World} (h : TmAt b s w) (k : Keeps w w') : TmAt b s w' := h.block (Below.block k b h.old)
theorem TmAt.only {b c : Nat} {s : Tms} {w w' : World} (h : TmAt b s w) (hn : b ≠ c) (k : Only c w w') : TmAt b s w' := h.block (k.block b h.old hn)
theorem TmAt.made (w : World) (s : Tms) (t : TypeId) : TmAt w.heap.size s (w.alloc (.cells #[.int .i64 s.dt, .bool s.tb, .bool s.fr, .int .i64 s.ad] t)) := by
  constructor
  case fz => exact fun i _ => World.frozen?_alloc_new _ _ _ _
  all_goals (rw [World.cell?_alloc_new]; rfl)
theorem TmAt.range {b : Nat} {s : Tms} {w : World} (h : TmAt b s w) : w.rangeAt b 0 (tmC s) := by
  intro j v hv
  rw [Nat.zero_add]
  match j, hv with
  | 0, hv => cases hv; exact h.c0
  | 1, hv => cases hv; exact h.c1
  | 2, hv => cases hv; exact h.c2
  | 3, hv => cases hv; exact h.c3
  | n + 4, hv => simp [tmC] at hv
theorem TmAt.there {b : Nat} {s : Tms} {w : World} (h : TmAt b s w) : w.there b 0 4 := by
  intro j hj
  rw [Nat.zero_add]
  refine ⟨?_, h.fz j hj⟩
  match j, hj with
  | 0, _ => rw [h.c0]; rfl
  | 1, _ => rw [h.c1]; rfl
  | 2, _ => rw [h.c2]; rfl
  | 3, _ => rw [h.c3]; rfl
theorem TmAt.of {b : Nat} {s : Tms} {w : World} (h : w.rangeAt b 0 (tmC s)) (f : ∀ i, i < 4 → w.frozen? ⟨b, i, none⟩ = false) : TmAt b s w := by
  have k : ∀ j v, (tmC s)[j]? = some v → w.cell? ⟨b, j, none⟩ = some v := fun j v hv => by have := h j v hv; rwa [Nat.zero_add] at this
  exact ⟨k 0 _ rfl, k 1 _ rfl, k 2 _ rfl, k 3 _ rfl, f⟩
theorem TmAt.store {b : Nat} {s : Tms} {w : World} (h : TmAt b s w) (t : Tms) : TmAt b t (w.setCells b 0 (tmC t)) :=
  TmAt.of (World.rangeAt_setCells_same w b 0 (tmC t) h.there) fun i hi => by rw [World.frozen?_setCells]; exact h.fz i hi
theorem TmAt.set0 {b : Nat} {s : Tms} {w : World} (h : TmAt b s w) (x : Int) : TmAt b { s with dt := x } (w.setCell ⟨b, 0, none⟩ (.int .i64 x)) :=
  ⟨set_same h.c0, (set_other (by decide)).trans h.c1, (set_other (by decide)).trans h.c2, (set_other (by decide)).trans h.c3, fun i hi => by simp [h.fz i hi]⟩
theorem TmAt.set1 {b : Nat} {s : Tms} {w : World} (h : TmAt b s w) (x : Bool) : TmAt b { s with tb := x } (w.setCell ⟨b, 1, none⟩ (.bool x)) :=
  ⟨(set_other (by decide)).trans h.c0, set_same h.c1, (set_other (by decide)).trans h.c2, (set_other (by decide)).trans h.c3, fun i hi => by simp [h.fz i hi]⟩
theorem TmAt.set2 {b : Nat} {s : Tms} {w : World} (h : TmAt b s w) (x : Bool) : TmAt b { s with fr := x } (w.setCell ⟨b, 2, none⟩ (.bool x)) :=
  ⟨(set_other (by decide)).trans h.c0, (set_other (by decide)).trans h.c1, set_same h.c2, (set_other (by decide)).trans h.c3, fun i hi => by simp [h.fz i hi]⟩
theorem TmAt.set3 {b : Nat} {s : Tms} {w : World} (h : TmAt b s w) (x : Int) : TmAt b { s with ad := x } (w.setCell ⟨b, 3, none⟩ (.int .i64 x)) :=
  ⟨(set_other (by decide)).trans h.c0, (set_other (by decide)).trans h.c1, (set_other (by decide)).trans h.c2, set_same h.c3, fun i hi => by simp [h.fz i hi]⟩
theorem lvT {w : World} {b : Nat} {s : Tms} (h : TmAt b s w) : (loadVar 23 ⟨b, 0, none⟩).run Try.prog w = .ok (tmV s) w := run_loadVar_mid (P := Try.prog) w b 0 _ (tmC s) _ h.range Try.underlying23 rfl (by kernel_rfl)
theorem ldT {w : World} {b o : Nat} {s : Tms} (h : w.rangeAt b o (tmC s)) : (Instr.loadAt 23 (.pointer (some ⟨b, o, none⟩))).run Try.prog w = .ok (tmV s) w := run_loadAt_mid (P := Try.prog) w b o _ (tmC s) _ h Try.underlying23 rfl (by kernel_rfl)
theorem wp_ldT {ops : Array Oper} {rest : List Oper} {o : Oper} {a : Act} {w : World} {Q : Exit → Act → World → Prop} {b off : Nat} {s : Tms} (h : w.rangeAt b off (tmC s)) (hgd : o.guard = none) (x : Operand) (ho : o.op = .load 23 x)
    (hx : a.eval x = .pointer (some ⟨b, off, none⟩)) (k : wpList Try.prog ops Q rest (a.put o.dst (tmV s)) w) : wpList Try.prog ops Q (o :: rest) a w :=
  wpList_load_mid hgd _ x ho b off hx (tmC s) _ h Try.underlying23 rfl (by kernel_rfl) k
theorem wp_stT {ops : Array Oper} {rest : List Oper} {o : Oper} {a : Act} {w : World} {Q : Exit → Act → World → Prop} {b off : Nat} (s : Tms) (h : w.there b off 4) (hgd : o.guard = none) (x y : Operand) (ho : o.op = .store 23 x y)
    (hx : a.eval x = .pointer (some ⟨b, off, none⟩)) (hy : a.eval y = tmV s) (k : wpList Try.prog ops Q rest (a.put o.dst undef) (w.setCells b off (tmC s))) : wpList Try.prog ops Q (o :: rest) a w :=
  wpList_store_mid hgd _ x y ho b off (tmC s).toArray hx hy h (by kernel_rfl) (all_oneCell_toArray (tmC_one s)) k
/-- Are two times the same? -/
def sameT (a b : Tms) : Bool := a.dt == b.dt && a.tb == b.tb && a.fr == b.fr && a.ad == b.ad
theorem sameT_iff {a b : Tms} : sameT a b = true ↔ a = b := by
  constructor
  · intro h
    unfold sameT at h
    simp only [Bool.and_eq_true, beq_iff_eq, and_assoc] at h
    obtain ⟨h1, h2, h3, h4⟩ := h
    exact tms_ext h1 h2 h3 h4
  · rintro rfl
    unfold sameT
    simp
theorem sameT_self (a : Tms) : sameT a a = true := sameT_iff.2 rfl
theorem sameT_no {a b : Tms} (h : a ≠ b) : sameT a b = false := by
  cases e : sameT a b with
  | false => rfl
  | true => exact absurd (sameT_iff.1 e) h
section
variable {a b : Tms} {w : World}
theorem eqT0 : (Op.equalIn 10000 23 (tmV a) (tmV b)).run Try.prog w = .ok (sameT a b) w := by
  have u1 := Try.underlying3
  have u2 := Try.underlying4
  have a1 := Try.isAgg3
  have a2 := Try.isAgg4
  have hS : Try.prog.underlying 23 = some (.struct (Try.prog.fieldsOf 23)) := by kernel_rfl
  have hp : Try.prog.stoodInHeld 23 = false := by kernel_rfl
  rw [show (10000 : Nat) = 9999 + 1 from rfl, run_equalIn_agg w 9999 _ _ _ hS hp]
  simp only [Program.fieldsOf, Try.underlying23]
  unfold sameT
  go_simp
  by_cases h1 : a.dt = b.dt <;> by_cases h2 : a.tb = b.tb <;> by_cases h3 : a.fr = b.fr <;> by_cases h4 : a.ad = b.ad <;> simp [h1, h2, h3, h4]
theorem eqT : (binOp .eql 23 (tmV a) (tmV b)).run Try.prog w = .ok (.bool (sameT a b)) w := by rw [run_eql_struct, eqT0]; rfl
theorem neT : (binOp .neq 23 (tmV a) (tmV b)).run Try.prog w = .ok (.bool (!sameT a b)) w := by rw [run_neq_struct, eqT0]; rfl
theorem egT : Try.prog.eqGuardType Try.prog.depth 23 = false := by kernel_rfl
end
theorem four_ofT {α : Type} {l : List α} (h : l.length = 4) : ∃ a b c d, l = [a, b, c, d] := by
  match l, h with
  | [a, b, c, d], _ => exact ⟨a, b, c, d, rfl⟩
/-- Times that are handed in. -/
theorem open_tms {H : Type} {enc : TypeId × Value → H} {W : World} {r : Reach} {b0 base : Nat} {spare : Nat → Bool} {held : Bool} {v : Value} {d : DataW H} {p : List MemPlace}
    (hv : Value.okWide Try.prog W r b0 23 v) (h : DataW.Trod enc Try.prog W base spare held 23 v d p) : ∃ s : Tms, v = tmV s := by
  obtain ⟨cs, rfl, hsz, _⟩ : ∃ cs, v = .agg cs ∧ cs.size = Try.prog.cellsOf 23 ∧ Row.okWide Try.prog W r b0 23 cs := by
    simpa [Value.okWide, Try.underlying23] using hv
  obtain ⟨l⟩ := cs
  obtain ⟨fuel, hf⟩ := h
  obtain ⟨xs, m, _, _, hl, hx, hi⟩ := DataW.trod_struct Try.underlying23 hf
  have c8 : Try.prog.cellsOf 23 = 4 := by kernel_rfl
  have ci : Try.prog.cellsOf 3 = 1 := by kernel_rfl
  have cb : Try.prog.cellsOf 4 = 1 := by kernel_rfl
  rw [c8] at hl
  obtain ⟨v0, v1, v2, v3, hl2⟩ := four_ofT hl
  obtain ⟨y0, y1, y2, y3, rfl⟩ := four_ofT (show xs.length = 4 from hx)
  subst hl2
  have h0 := hi 0 _ rfl
  have h1 := hi 1 _ rfl
  have h2 := hi 2 _ rfl
  have h3 := hi 3 _ rfl
  simp [ci, cb] at h0 h1 h2 h3
  obtain ⟨x0, e0, _⟩ := DataW.trod_int Try.underlying3 h0
  obtain ⟨x1, e1, _⟩ := DataW.trod_bool Try.underlying4 h1
  obtain ⟨x2, e2, _⟩ := DataW.trod_bool Try.underlying4 h2
  obtain ⟨x3, e3, _⟩ := DataW.trod_int Try.underlying3 h3
  obtain rfl : v0 = .int .i64 x0 := List.head_eq_of_cons_eq (show [v0] = [Value.int .i64 x0] from e0)
  obtain rfl : v1 = .bool x1 := List.head_eq_of_cons_eq (show [v1] = [Value.bool x1] from e1)
  obtain rfl : v2 = .bool x2 := List.head_eq_of_cons_eq (show [v2] = [Value.bool x2] from e2)
  obtain rfl : v3 = .int .i64 x3 := List.head_eq_of_cons_eq (show [v3] = [Value.int .i64 x3] from e3)
  exact ⟨⟨x0, x1, x2, x3⟩, rfl⟩
end Go.Proofs.Ytdpgphidielajaa
namespace Go.Proofs.Ytdpgphidielajaa
open Go.RowKit Gf Tm
set_option maxRecDepth 100000
def TmPost (w0 : World) (s : Tms) (e : Ending) (w' : World) : Prop := e = .returned (tmV s) ∧ Keeps w0 w'
theorem tmkept_any (s : Tms) (w : World) : Calls Try.prog 40 #[tmV s] w (TmPost w (kpT s)) := by
  obtain ⟨dt, tb, fr, ad⟩ := s
  have m1 : bits .and .i64 dt 4095 = dt % 4096 := mask_any 12 (by decide) dt rfl
  have m2 : bits .and .i64 ad 262143 = ad % 262144 := mask_any 18 (by decide) ad rfl
  go_enter Try.func40, Try.ntmps40
  go_wp2
  exact bodyPost_ret (v := tmV (kpT ⟨dt, tb, fr, ad⟩)) (by simp [results, Try.results40, go_sem]; exact ⟨rfl, rfl, rfl, rfl⟩) rfl ⟨rfl, ((Keeps.refl w).alloc _).alloc _⟩
theorem tmbit_any (b : Bool) (w : World) : Calls Try.prog 34 #[.bool b] w fun e w' => e = .returned (.int .u64 (bv b : Int)) ∧ w = w' := by
  cases b
  all_goals
    go_enter Try.func34, Try.ntmps34
    go_wp2
    go_ret
    exact ⟨rfl, rfl⟩
def TckPost (w0 : World) (n : Int) (e : Ending) (w' : World) : Prop := e = .returned (.int .i64 n) ∧ Keeps w0 w'
set_option maxHeartbeats 1600000 in
theorem tmcheck_any (w0 : World) (s : Tms) (w : World) (hk : Keeps w0 w) : Calls Try.prog 24 #[tmV s] w (TckPost w0 (ckT s)) := by
  have h1 := TmAt.made w s 23
  obtain ⟨b, hb⟩ : ∃ b, w.heap.size = b := ⟨_, rfl⟩
  obtain ⟨wA, hA⟩ : ∃ wA, w.alloc (.cells #[.int .i64 s.dt, .bool s.tb, .bool s.fr, .int .i64 s.ad] 23) = wA := ⟨_, rfl⟩
  have hkA : Keeps w0 wA := by rw [← hA]; exact hk.alloc _
  rw [hA, hb] at h1
  have HS := Lib.hid h1
  have HK := Lib.hid hkA
  have HKP := Lib.hid (fun W => tmkept_any s W)
  unfold TmPost at HKP
  have hne : ∀ W, (binOp .neq 23 (tmV (kpT s)) (tmV s)).run Try.prog W = .ok (.bool (!sameT (kpT s) s)) W := fun W => neT
  have heg := egT
  have HC : Hid (ckT s = if sameT (kpT s) s then 0 else 15) := Lib.hid (by
    by_cases h : okT s
    · rw [ckT_ok h, kpT_iff.2 h, sameT_self]; rfl
    · rw [ckT_no h, sameT_no (fun e => h (kpT_iff.1 e))]; rfl)
  obtain ⟨B, hB⟩ : ∃ B, sameT (kpT s) s = B := ⟨_, rfl⟩
  rw [hB] at HC
  simp only [hB] at hne
  obtain ⟨kp, hkp⟩ : ∃ kp, kpT s = kp := ⟨_, rfl⟩
  rw [hkp] at HKP
  simp only [hkp] at hne
  clear h1 hkA hk hB hkp
  obtain ⟨q0, q1, q2, q3, _⟩ := HS.out
  obtain ⟨dt, tb, fr, ad⟩ := s
  obtain ⟨kd, kt, kf, ka⟩ := kp
  simp only at hA q0 q1 q2 q3 hne
  go_enter Try.func24, Try.ntmps24
  go_wp2
  refine wp_draw (by kernel_rfl) [tmV ⟨dt, tb, fr, ad⟩, tmV ⟨kd, kt, kf, ka⟩, tmV ⟨dt, tb, fr, ad⟩, .bool (!B)]
    (fun _ W => Keeps wA W) rfl (by kernel_rfl) (fin := ?fin) ?hfin ((Keeps.refl wA).eqv (Eqv.drew wA)) ?each ?hend
  case hfin => simp [seqA, dstOf, Act.put]; rfl
  case each =>
    refine ⟨?_, ?_, ?_, ?_, trivial⟩
    all_goals intro X w6 h0 hd hs hw
    all_goals unfold Does
    all_goals obtain ⟨q0, q1, q2, q3, _⟩ := HS.out.keeps hw
    all_goals go_simp
    all_goals first
      | exact fun L' k => hw
      | ((with_reducible refine (HKP.out w6).mono ?_); rintro e w8 ⟨rfl, k8⟩; exact ⟨_, rfl, rfl, fun _ _ => hw.trans k8⟩)
  case hend =>
  intro X w6 hL hw
  have HKE := Lib.hid (HK.out.trans hw)
  clear hw hL
  cases B
  · go_wp2
    go_ret
    exact ⟨by rw [HC.out]; rfl, HKE.out⟩
  · go_wp2
    go_ret
    exact ⟨by rw [HC.out]; rfl, HKE.out⟩
def nbI (s : Tms) : Int := s.dt * 1048576 + s.ad + (bv s.tb : Int) * 524288 + (bv s.fr : Int) * 262144
theorem nbI_nbr {s : Tms} (h : okT s) : nbI s = (nbr s : Int) := by
  unfold okT at h; unfold nbI nbr; omega
/-- The four bytes of a number, as the document takes them off. -/
theorem by4_int {n : Nat} (h : n < 4294967296) : ∃ x0 x1 x2 x3 : UInt8, by4 n = [x0, x1, x2, x3] ∧ (n : Int) / 16777216 = (x0.toNat : Int) ∧ (n : Int) / 65536 % 256 = (x1.toNat : Int) ∧ (n : Int) / 256 % 256 = (x2.toNat : Int) ∧ (n : Int) % 256 = (x3.toNat : Int) := by
  refine ⟨_, _, _, _, rfl, ?_, ?_, ?_, ?_⟩
  all_goals rw [w8_nat (by omega)]; omega
/-- A literal of four bytes, as a text. -/
theorem text4 (x0 x1 x2 x3 : UInt8) (W : World) : (convert 45 9 (.slice (some ⟨W.heap.size, 0, none⟩) 4 4)).run Try.prog (W.alloc (.cells #[.int .u8 (x0.toNat : Int), .int .u8 (x1.toNat : Int), .int .u8 (x2.toNat : Int), .int .u8 (x3.toNat : Int)] 5)) =
    .ok (.string (st [x0, x1, x2, x3])) (W.alloc (.cells #[.int .u8 (x0.toNat : Int), .int .u8 (x1.toNat : Int), .int .u8 (x2.toNat : Int), .int .u8 (x3.toNat : Int)] 5)) :=
  Own.text (l := [x0, x1, x2, x3]) (base := W.heap.size) (show Own (W.alloc (.cells #[B x0, B x1, B x2, B x3] 5)) W.heap.size (.slice (some ⟨W.heap.size, 0, none⟩) 4 4) [x0, x1, x2, x3] from World.ownsRow_lit W #[B x0, B x1, B x2, B x3] 4 (Nat.le_refl _) (by unfold maxLen; omega) rfl)
theorem four_bytes {s : ByteArray} (h : s.size = 4) : ∃ a b c d : UInt8, s = ⟨#[a, b, c, d]⟩ := by
  obtain ⟨⟨l⟩⟩ := s
  obtain ⟨a, b, c, d, e⟩ := four_ofT (show l.length = 4 from h)
  exact ⟨a, b, c, d, by rw [e]⟩
theorem ofN_int {n : Nat} {N m1 m2 m3 m4 : Int} (hN : N = (n : Int)) (h1 : m1 = N / 1048576) (h2 : m2 = N / 524288 % 2) (h3 : m3 = N / 262144 % 2) (h4 : m4 = N % 262144) : ofN n = ⟨m1, m2 == 1, m3 == 1, m4⟩ := by
  subst hN
  have d : ∀ (k : Nat) (K : Int), K = (k : Int) → decide (k = 1) = (K == 1) := by
    intro k K h
    subst h
    by_cases e : k = 1
    · subst e; rfl
    · rw [decide_eq_false e]; symm; rw [beq_eq_false_iff_ne]; omega
  refine tms_ext (by show ((n / 1048576 : Nat) : Int) = m1; omega) ?_ ?_ (by show ((n % 262144 : Nat) : Int) = m4; omega)
  · exact d _ _ (by rw [h2]; omega)
  · exact d _ _ (by rw [h3]; omega)
/-- The end of a function that answers times, in a cell. -/
theorem tm_ret {W : World} {a : Act} {fn : Func} {T : TypeId} {b : Nat} {s : Tms} {Q : Ending → World → Prop} (hres : fn.results = #[.cell 2 T])
    (hl : (loadVar T ⟨b, 0, none⟩).run Try.prog W = .ok (tmV s) W) (h2 : a.tmps.getD 2 undef = .pointer (some ⟨b, 0, none⟩)) (hd : a.defers = [])
    (h : Q (.returned (tmV s)) W) : bodyPost Try.prog fn Q Exit.ret a W := by
  have h2' : a.tmps[2]?.getD undef = .pointer (some ⟨b, 0, none⟩) := by rw [← h2, Array.getD_eq_getD_getElem?]
  exact bodyPost_ret (v := tmV s) (by simp only [results, hres]; simp [asAddr, h2', hl]) hd h
/-- The end of a function that answers times (in a cell) and an error. -/
theorem tm_ret2 {W : World} {a : Act} {fn : Func} {T : TypeId} {b : Nat} {s : Tms} {n : Int} {Q : Ending → World → Prop} (hres : fn.results = #[.cell 2 T, .tmp 3])
    (hl : (loadVar T ⟨b, 0, none⟩).run Try.prog W = .ok (tmV s) W) (h2 : a.tmps.getD 2 undef = .pointer (some ⟨b, 0, none⟩)) (h3 : a.tmps.getD 3 undef = .int .i64 n) (hd : a.defers = [])
    (h : Q (.returned (.tuple #[tmV s, .int .i64 n])) W) : bodyPost Try.prog fn Q Exit.ret a W := by
  have h2' : a.tmps[2]?.getD undef = .pointer (some ⟨b, 0, none⟩) := by rw [← h2, Array.getD_eq_getD_getElem?]
  have h3' : a.tmps[3]?.getD undef = .int .i64 n := by rw [← h3, Array.getD_eq_getD_getElem?]
  exact bodyPost_ret (v := .tuple #[tmV s, .int .i64 n]) (by simp only [results, hres]; simp [Result.andThen, asAddr, h2', h3', hl]) hd h
end Go.Proofs.Ytdpgphidielajaa
