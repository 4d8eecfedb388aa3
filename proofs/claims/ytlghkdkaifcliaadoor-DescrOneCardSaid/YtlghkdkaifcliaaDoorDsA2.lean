/-
  What readBody of package descr answers. The memory that was there stays.
-/
import Derived.Test.YtlghkdkaifcliaaDoorDsZ
namespace Go.Proofs.YtlghkdkaifcliaaDoor
open Go.RowKit Gf Ds
set_option maxRecDepth 100000
set_option linter.unusedVariables false
set_option linter.unusedSimpArgs false
theorem tkL_less {l : List UInt8} (h : (tkL l).2.2 = 0) : (tkL l).2.1.length + 2 ≤ l.length := by
  by_cases h2 : l.length < 2
  · rw [tkL_few h2] at h; cases h
  · by_cases k : l.length < 2 + lnN l
    · rw [tkL_short h2 k] at h; cases h
    · by_cases p : (parse ((l.drop 2).take (lnN l))).2 = 0
      · rw [tkL_go h2 k p]; show (List.drop _ _).length + 2 ≤ _; rw [List.length_drop]; omega
      · rw [tkL_bad h2 k p] at h; exact absurd h p
theorem tkE_less {l : List UInt8} (h : (tkE l).2.2 = 0) : (tkE l).2.1.length + 4 ≤ l.length := by
  unfold tkE at h ⊢
  by_cases k : (tkL l).2.2 = 0
  · rw [if_neg (fun x => x k)] at h ⊢
    by_cases k2 : (tkL (tkL l).2.1).2.2 = 0
    · rw [if_neg (fun x => x k2)]
      have a := tkL_less k
      have b := tkL_less k2
      show (tkL (tkL l).2.1).2.1.length + 4 ≤ _
      omega
    · rw [if_pos k2] at h; exact absurd h k2
  · rw [if_pos k] at h; exact absurd h k
theorem lps_cons (p : List Dsc × List Dsc) (t : List (List Dsc × List Dsc)) : lps (p :: t) = p.1 :: p.2 :: lps t := rfl
theorem lps_mem {l : List (List Dsc × List Dsc)} {p : List Dsc × List Dsc} (h : p ∈ l) : p.1 ∈ lps l ∧ p.2 ∈ lps l := by
  unfold lps
  exact ⟨List.mem_flatMap.2 ⟨p, h, List.mem_cons_self ..⟩, List.mem_flatMap.2 ⟨p, h, List.mem_cons_of_mem _ (List.mem_cons_self ..)⟩⟩
theorem sp_step {y : IntD} (ho : okI y) {acc rem : List (List Dsc × List Dsc)} {r : List UInt8} (e : y.ents = acc ++ rem) (hb : bdB (lps rem) = r) (h0 : r ≠ []) : ∃ p t, rem = p :: t ∧ tkE r = (p, bdB (lps t), 0) := by
  cases rem with
  | nil => exact absurd hb.symm h0
  | cons p t =>
    have hm : p ∈ y.ents := by rw [e]; exact List.mem_append_right _ (List.mem_cons_self ..)
    have h1 := ho.2 p.1 (List.mem_cons_of_mem _ (lps_mem hm).1)
    have h2 := ho.2 p.2 (List.mem_cons_of_mem _ (lps_mem hm).2)
    refine ⟨p, t, rfl, ?_⟩
    rw [← hb, lps_cons]
    show tkE (lnB p.1 ++ (lnB p.2 ++ bdB (lps t))) = _
    exact tkE_of h1 h2 _
theorem sp_end {rem : List (List Dsc × List Dsc)} (hb : bdB (lps rem) = []) : rem = [] := by
  cases rem with
  | nil => rfl
  | cons p t =>
    have h : (bdB (lps (p :: t))).length = 0 := by rw [hb]; rfl
    rw [lps_cons] at h
    have : (lnB p.1 ++ bdB (p.2 :: lps t)).length = 0 := h
    rw [List.length_append, lnB_length] at this
    omega
theorem u8_nat_mod (n : Nat) : (Ds.u8 n).toNat = n % 256 := by rw [← u8_mod, u8_nat (Nat.mod_lt _ (by decide))]
theorem byt_first {y : IntD} (ho : okI y) {c0 c1 c2 c3 : UInt8} {rr : List UInt8} (h : bytI y = c0 :: c1 :: c2 :: c3 :: rr) :
    y.plat = ((65536 * c0.toNat + 256 * c1.toNat + c2.toNat : Nat) : Int) ∧ y.ord = (c3.toNat : Int) ∧ tkL rr = (y.info, bdB (lps y.ents), 0) := by
  obtain ⟨⟨p0, p1⟩, ⟨o0, o1⟩, _⟩ := ho.1
  have h' : Ds.u8 (y.plat.toNat / 65536) :: Ds.u8 (y.plat.toNat / 256) :: Ds.u8 y.plat.toNat :: Ds.u8 y.ord.toNat :: (lnB y.info ++ bdB (lps y.ents)) = c0 :: c1 :: c2 :: c3 :: rr := h
  injection h' with a0 h'
  injection h' with a1 h'
  injection h' with a2 h'
  injection h' with a3 h'
  refine ⟨?_, ?_, ?_⟩
  · rw [← a0, ← a1, ← a2, u8_nat_mod, u8_nat_mod, u8_nat_mod]; omega
  · rw [← a3, u8_nat_mod]; omega
  · rw [← h']; exact tkL_of (ho.2 _ (List.mem_cons_self ..)) _
theorem byt_len (y : IntD) : 4 ≤ (bytI y).length := by
  unfold bytI
  rw [List.length_append]
  show 4 ≤ 4 + _
  omega
abbrev iC (A P O : Int) (a : Option Addr) (n c : Nat) (ae : Option Addr) (ne ce : Nat) : List Value := [.int .i64 A, .int .i64 P, .int .i64 O, .slice a n c, .slice ae ne ce]
abbrev iV (A P O : Int) (a : Option Addr) (n c : Nat) (ae : Option Addr) (ne ce : Nat) : Value := .agg #[.int .i64 A, .int .i64 P, .int .i64 O, .slice a n c, .slice ae ne ce]
section
variable {A P O : Int} {a : Option Addr} {n c : Nat} {ae : Option Addr} {ne ce : Nat}
theorem iC_one : ∀ u ∈ iC A P O a n c ae ne ce, u.oneCell' = true := by
  intro u hu
  simp only [iC, List.mem_cons, List.not_mem_nil, or_false] at hu
  rcases hu with rfl | rfl | rfl | rfl | rfl <;> rfl
theorem lvI {w : World} {b : Nat} (h : w.rangeAt b 0 (iC A P O a n c ae ne ce)) : (loadVar 78 ⟨b, 0, none⟩).run Tryd.prog w = .ok (iV A P O a n c ae ne ce) w := run_loadVar_mid (P := Tryd.prog) w b 0 _ (iC A P O a n c ae ne ce) _ h Tryd.underlying78 rfl (by kernel_rfl)
theorem wp_ldI {ops : Array Oper} {rest : List Oper} {o : Oper} {ac : Act} {w : World} {Q : Exit → Act → World → Prop} {b off : Nat} (h : w.rangeAt b off (iC A P O a n c ae ne ce)) (hgd : o.guard = none) (x : Operand) (ho : o.op = .load 78 x)
    (hx : ac.eval x = .pointer (some ⟨b, off, none⟩)) (k : wpList Tryd.prog ops Q rest (ac.put o.dst (iV A P O a n c ae ne ce)) w) : wpList Tryd.prog ops Q (o :: rest) ac w :=
  wpList_load_mid hgd _ x ho b off hx (iC A P O a n c ae ne ce) _ h Tryd.underlying78 rfl (by kernel_rfl) k
theorem wp_stI {ops : Array Oper} {rest : List Oper} {o : Oper} {ac : Act} {w : World} {Q : Exit → Act → World → Prop} {b off : Nat} (h : w.there b off 5) (hgd : o.guard = none) (x y : Operand) (ho : o.op = .store 78 x y)
    (hx : ac.eval x = .pointer (some ⟨b, off, none⟩)) (hy : ac.eval y = iV A P O a n c ae ne ce) (k : wpList Tryd.prog ops Q rest (ac.put o.dst undef) (w.setCells b off (iC A P O a n c ae ne ce))) : wpList Tryd.prog ops Q (o :: rest) ac w :=
  wpList_store_mid hgd _ x y ho b off (iC A P O a n c ae ne ce).toArray hx hy h (by kernel_rfl) (all_oneCell_toArray iC_one) k
end
theorem wp_ldEn {ops : Array Oper} {rest : List Oper} {o : Oper} {ac : Act} {w : World} {Q : Exit → Act → World → Prop} {b off : Nat} {s : EnR} (h : w.rangeAt b off (enC s)) (hgd : o.guard = none) (x : Operand) (ho : o.op = .load 119 x)
    (hx : ac.eval x = .pointer (some ⟨b, off, none⟩)) (k : wpList Tryd.prog ops Q rest (ac.put o.dst (.agg #[.slice s.ta s.tn s.tc, .slice s.oa s.on s.oc])) w) : wpList Tryd.prog ops Q (o :: rest) ac w :=
  wpList_load_mid hgd _ x ho b off hx (enC s) _ h Tryd.underlying119 rfl (by kernel_rfl) k
/-- A list of descriptors that lies at lo or above, and not in the row v. -/
def LsA (lo : Nat) (v : Value) (W : World) (a : Option Addr) (n : Nat) (l : List Dsc) : Prop := IsE rowD W a n l ∧ ∀ x, a = some x → 0 < l.length → lo ≤ x.block ∧ v.ownBlock ≠ some x.block
theorem LsA.foot {lo : Nat} {v v' : Value} {W W' : World} {a : Option Addr} {n : Nat} {l : List Dsc} {S : Nat → Prop} (h : LsA lo v W a n l) (f : Foot S W W') (hs : ∀ k, S k → lo ≤ k → v.ownBlock = some k) (h' : ∀ g, v'.ownBlock = some g → v.ownBlock = some g ∨ W.heap.size ≤ g) : LsA lo v' W' a n l := by
  obtain ⟨⟨h1, h2⟩, h3⟩ := h
  refine ⟨⟨h1, fun h0 => ?_⟩, fun x hx h0 => ?_⟩
  · obtain ⟨b, off, ha, hb, hc⟩ := h2 h0
    exact ⟨b, off, ha, Nat.lt_of_lt_of_le hb f.size, fun i u hu => (World.cell?_of_block (w := W) (a := ⟨b, off + i, none⟩) (f.block b hb fun hS => (h3 _ ha h0).2 (hs b hS (h3 _ ha h0).1))).trans (hc i u hu)⟩
  · refine ⟨(h3 x hx h0).1, fun e => ?_⟩
    obtain ⟨b, off, ha, hb, _⟩ := h2 h0
    rw [ha] at hx
    cases hx
    rcases h' _ e with q | q
    · exact (h3 _ ha h0).2 q
    · have : W.heap.size ≤ b := q
      omega
/-- What holds at the label. -/
structure RbK (wM : World) (bx : Nat) (s : List UInt8) (P O : Int) (inf : List Dsc) (a : Option Addr) (n c : Nat) (r : List UInt8) (acc : List (List Dsc × List Dsc)) (es : List EnR) (ae : Option Addr) (ne ce : Nat) (W : World) : Prop where
  sp : ∀ y, okI y → bytI y = s → y.plat = P ∧ y.ord = O ∧ y.info = inf ∧ ∃ rem, y.ents = acc ++ rem ∧ bdB (lps rem) = r
  len : 4 * acc.length + r.length ≤ s.length
  at' : wM.heap.size = bx
  box : CsAns wM bx (iC 0 P O a n c ae ne ce) W
  own : OwnE rowEn W (bx + 1) (.slice ae ne ce) es
  ln : es.length = acc.length
  one : ∀ (i : Nat) (h : i < es.length) (k : i < acc.length), LsA (bx + 1) (.slice ae ne ce) W es[i].ta es[i].tn acc[i].1 ∧ LsA (bx + 1) (.slice ae ne ce) W es[i].oa es[i].on acc[i].2
  sm : ∀ e ∈ es, e.tn ≤ 4095 ∧ e.on ≤ 4095
section
variable {wM : World} {bx : Nat} {s : List UInt8} {P O : Int} {inf : List Dsc} {a : Option Addr} {n c : Nat} {r : List UInt8} {acc : List (List Dsc × List Dsc)} {es : List EnR} {ae : Option Addr} {ne ce : Nat} {wr : World}
theorem RbK.apart (h : RbK wM bx s P O inf a n c r acc es ae ne ce wr) : ∀ g, (Value.slice ae ne ce).ownBlock = some g → bx + 1 ≤ g := h.own.block
theorem RbK.box7 (h : RbK wM bx s P O inf a n c r acc es ae ne ce wr) {w5 w7 : World} (k5 : Keeps wr w5) {o : Obj} (g : (w5.alloc o).grownBy w7 (Value.slice ae ne ce).ownBlock) : CsAns wM bx (iC 0 P O a n c ae ne ce) w7 := by
  have f : Foot (fun k => (Value.slice ae ne ce).ownBlock = some k) wr w7 := (k5.foot _).same ((Foot.alloc _ w5 o).same (Foot.grown g fun r h => h))
  exact ⟨h.box.z.foot f fun e => by have := h.apart _ e; omega, f.keeps h.box.k fun k e => by have := h.apart _ e; have := h.at'; omega, h.box.m⟩
theorem RbK.next (h : RbK wM bx s P O inf a n c r acc es ae ne ce wr) {p q : List Dsc} {R2 : List UInt8} (h0 : r ≠ []) (ht : tkE r = ((p, q), R2, 0)) {w4 w5 w7 : World} (k4 : Keeps wr w4) {en : EnR} (i1 : IsE rowD w4 en.ta en.tn p) (i2 : IsE rowD w4 en.oa en.on q) (z1 : en.tn ≤ 4095) (z2 : en.on ≤ 4095)
    (b1 : ∀ x, en.ta = some x → wr.heap.size ≤ x.block) (b2 : ∀ x, en.oa = some x → wr.heap.size ≤ x.block) (k5 : Keeps w4 w5) {o : Obj} (g : (w5.alloc o).grownBy w7 (Value.slice ae ne ce).ownBlock) {a7 : Option Addr} {n7 c7 : Nat} (o7 : OwnE rowEn w7 (bx + 1) (.slice a7 n7 c7) (es ++ [en]))
    (at7 : (Value.slice a7 n7 c7).ownBlock = (Value.slice ae ne ce).ownBlock ∨ (Value.slice a7 n7 c7).ownBlock = some (w5.heap.size + 1)) :
    RbK wM bx s P O inf a n c R2 (acc ++ [(p, q)]) (es ++ [en]) a7 n7 c7 (w7.setCell ⟨bx, 4, none⟩ (.slice a7 n7 c7)) := by
  have kr5 : Keeps wr w5 := k4.trans k5
  have f47 : Foot (fun k => k = bx ∨ (Value.slice ae ne ce).ownBlock = some k) w4 (w7.setCell ⟨bx, 4, none⟩ (.slice a7 n7 c7)) := (k5.foot _).same ((Foot.alloc _ w5 o).same ((Foot.grown g fun r h => .inr h).same (Foot.setCell (.inl rfl))))
  have fr7 := (k4.foot (fun k => k = bx ∨ (Value.slice ae ne ce).ownBlock = some k)).same f47
  have s5 : w4.heap.size ≤ w5.heap.size := Below.size k5
  have s4 : wr.heap.size ≤ w4.heap.size := Below.size k4
  have hbo := h.box.z.old
  have hnew : ∀ (W : World), W.heap.size ≤ w5.heap.size → ∀ g, (Value.slice a7 n7 c7).ownBlock = some g → (Value.slice ae ne ce).ownBlock = some g ∨ W.heap.size ≤ g := fun W hW g hg => by
    rcases at7 with e | e
    · exact .inl (e ▸ hg)
    · rw [e] at hg; cases hg; exact .inr (by omega)
  have hs : ∀ k, (k = bx ∨ (Value.slice ae ne ce).ownBlock = some k) → bx + 1 ≤ k → (Value.slice ae ne ce).ownBlock = some k := fun k hk hl => by
    rcases hk with e | e
    · omega
    · exact e
  have new : ∀ (x : Option Addr) (m : Nat) (l : List Dsc), IsE rowD w4 x m l → (∀ y, x = some y → wr.heap.size ≤ y.block) → LsA (bx + 1) (.slice a7 n7 c7) (w7.setCell ⟨bx, 4, none⟩ (.slice a7 n7 c7)) x m l := fun x m l hi hb =>
    LsA.foot (v := .slice ae ne ce) ⟨hi, fun y hy _ => ⟨by have := hb y hy; omega, fun e => by have := h.own.old e; have := hb y hy; omega⟩⟩ f47 hs (hnew w4 s5)
  refine ⟨fun y hy hb => ?_, ?_, h.at', (h.box7 kr5 g).set 4 (show 4 < 5 by decide) _, o7.only (Only.setCell w7 ⟨bx, 4, none⟩ _) (fun e => by have := o7.block bx e; omega), ?_, fun i hi hk => ?_, fun e he => ?_⟩
  · obtain ⟨e1, e2, e3, rem, e4, e5⟩ := h.sp y hy hb
    obtain ⟨p', t, rfl, e6⟩ := sp_step hy e4 e5 h0
    rw [ht] at e6
    simp only [Prod.mk.injEq, and_true] at e6
    obtain ⟨rfl, e7⟩ := e6
    exact ⟨e1, e2, e3, t, by rw [e4, List.append_assoc]; rfl, e7.symm⟩
  · have hl := tkE_less (l := r) (by rw [ht])
    rw [ht] at hl
    have hl : R2.length + 4 ≤ r.length := hl
    have := h.len
    rw [List.length_append, List.length_singleton]; omega
  · rw [List.length_append, List.length_append, h.ln]; rfl
  · by_cases hlt : i < es.length
    · have hka : i < acc.length := by rw [← h.ln]; exact hlt
      rw [List.getElem_append_left hlt, List.getElem_append_left hka]
      have := h.one i hlt hka
      exact ⟨this.1.foot fr7 hs (hnew wr (by omega)), this.2.foot fr7 hs (hnew wr (by omega))⟩
    · have e1 : i = es.length := by rw [List.length_append, List.length_singleton] at hi; omega
      have e2 : i = acc.length := by rw [e1, h.ln]
      have q1 : (es ++ [en])[i] = en := by subst e1; simp
      have q2 : (acc ++ [(p, q)])[i] = (p, q) := by subst e2; simp
      rw [q1, q2]
      exact ⟨new _ _ _ i1 b1, new _ _ _ i2 b2⟩
  · rcases List.mem_append.1 he with e1 | e1
    · exact h.sm e e1
    · rw [List.mem_singleton.1 e1]; exact ⟨z1, z2⟩
end
/-- An Int's slices lie at lo or above. -/
structure IntAb (lo : Nat) (x : IntD) (a ae : Option Addr) (es : List EnR) : Prop where
  inf : ∀ p, a = some p → lo ≤ p.block
  ent : ∀ p, ae = some p → lo ≤ p.block
  one : ∀ (i : Nat) (h : i < es.length) (k : i < x.ents.length), (∀ p, es[i].ta = some p → 0 < x.ents[i].1.length → lo ≤ p.block) ∧ ∀ p, es[i].oa = some p → 0 < x.ents[i].2.length → lo ≤ p.block
theorem IsE.foot0 {α : Type} {T : RowT α} {W W' : World} {S : Nat → Prop} {a : Option Addr} {n : Nat} {l : List α} (h : IsE T W a n l) (f : Foot S W W') (hn : ∀ p, a = some p → 0 < l.length → ¬ S p.block) : IsE T W' a n l :=
  ⟨h.1, fun h0 => by
    obtain ⟨b, off, ha, hb, hc⟩ := h.2 h0
    exact ⟨b, off, ha, Nat.lt_of_lt_of_le hb f.size, fun i u hu => (World.cell?_of_block (w := W) (a := ⟨b, off + i, none⟩) (f.block b hb (hn _ ha h0))).trans (hc i u hu)⟩⟩
theorem IntAt.foot {lo : Nat} {W W' : World} {S : Nat → Prop} {x : IntD} {a : Option Addr} {n : Nat} {ae : Option Addr} {ne : Nat} {es : List EnR} (h : IntAt W x a n ae ne es) (ab : IntAb lo x a ae es) (f : Foot S W W') (hs : ∀ k, S k → k < lo) : IntAt W' x a n ae ne es :=
  ⟨h.inf.foot0 f fun p hp _ e => by have := hs _ e; have := ab.inf p hp; omega,
   ⟨h.ent.row.foot0 f fun p hp _ e => by have := hs _ e; have := ab.ent p hp; omega, h.ent.len, fun i q k =>
     ⟨(h.ent.one i q k).1.foot0 f fun p hp h0 e => by have := hs _ e; have := (ab.one i q k).1 p hp h0; omega, (h.ent.one i q k).2.foot0 f fun p hp h0 e => by have := hs _ e; have := (ab.one i q k).2 p hp h0; omega⟩⟩⟩
/-- readBody's answer, in memory. -/
def RbP (w : World) (s : List UInt8) (e : Ending) (w' : World) : Prop :=
  ∃ (P O : Int) (inf : List Dsc) (acc : List (List Dsc × List Dsc)) (a : Option Addr) (n c : Nat) (ae : Option Addr) (ne ce : Nat) (es : List EnR) (G : Int), e = .returned (.tuple #[iV 0 P O a n c ae ne ce, .int .i64 G]) ∧ Keeps w w' ∧ (G ≠ 0 → ∀ y, okI y → bytI y ≠ s) ∧
    (G = 0 → IntAt w' ⟨0, P, O, inf, acc⟩ a n ae ne es ∧ IntAb w.heap.size ⟨0, P, O, inf, acc⟩ a ae es ∧ n ≤ 4095 ∧ 4 * ne ≤ s.length ∧ (∀ e ∈ es, e.tn ≤ 4095 ∧ e.on ≤ 4095) ∧ ∀ y, okI y → bytI y = s → y.plat = P ∧ y.ord = O ∧ y.info = inf ∧ y.ents = acc)
theorem RbP.no {w W : World} {s : List UInt8} {G : Int} (h : ∀ y, okI y → bytI y ≠ s) (hG : G ≠ 0) (k : Keeps w W) : RbP w s (.returned (.tuple #[iV 0 0 0 none 0 0 none 0 0, .int .i64 G])) W :=
  ⟨0, 0, [], [], none, 0, 0, none, 0, 0, [], G, rfl, k, fun _ => h, fun e => absurd e hG⟩
theorem RbP.yes {wM : World} {b bx : Nat} {s : List UInt8} {P O : Int} {inf : List Dsc} {a : Option Addr} {n c : Nat} {acc : List (List Dsc × List Dsc)} {es : List EnR} {ae : Option Addr} {ne ce : Nat} {wr w : World} {cs : List Value} (h : RbK wM bx s P O inf a n c [] acc es ae ne ce wr)
    (hi : IsE rowD wr a n inf) (hn : n ≤ 4095) (ha : ∀ x, a = some x → b < x.block) (hb : b < bx) (z : CsAns w b cs wr) (hl : cs.length = 5) (hw : w.heap.size ≤ b) : RbP w s (.returned (.tuple #[iV 0 P O a n c ae ne ce, .int .i64 0])) (wr.setCells b 0 (iC 0 P O a n c ae ne ce)) := by
  have kf : Foot (fun k => k = b) wr (wr.setCells b 0 (iC 0 P O a n c ae ne ce)) := Foot.setCells (S := fun k => k = b) rfl
  have own := h.own.foot kf fun g hg e => by have := h.apart g hg; have e : g = b := e; omega
  obtain ⟨a', c', hv, hie, hlo⟩ := own.row16
  simp only [Value.slice.injEq] at hv
  obtain ⟨rfl, rfl, rfl⟩ := hv
  refine ⟨P, O, inf, acc, a, n, c, ae, es.length, ce, es, 0, rfl, (z.ends (iC 0 P O a n c ae es.length ce) (by rw [hl]; rfl)).k, fun e => absurd rfl e, fun _ => ⟨⟨hi.foot kf fun x hx e => by have := ha x hx; have e : x.block = b := e; omega, hie, h.ln, fun i p q => ?_⟩, ⟨fun x hx => by have := ha x hx; omega, fun x hx => by have := hlo x hx; omega, fun i p q => ⟨fun x hx h0 => by have := ((h.one i p q).1.2 x hx h0).1; omega, fun x hx h0 => by have := ((h.one i p q).2.2 x hx h0).1; omega⟩⟩, hn, ?_, h.sm, fun y hy hby => ?_⟩⟩
  · have := h.one i p q
    have hs : ∀ k, k = b → bx + 1 ≤ k → (Value.slice ae es.length ce).ownBlock = some k := fun k e hk => by omega
    exact ⟨(this.1.foot kf hs (fun g hg => .inl hg)).1, (this.2.foot kf hs (fun g hg => .inl hg)).1⟩
  · have := h.len; have := h.ln; omega
  · obtain ⟨e1, e2, e3, rem, e4, e5⟩ := h.sp y hy hby
    refine ⟨e1, e2, e3, ?_⟩
    rw [e4, sp_end e5, List.append_nil]
theorem RbK.no {wM : World} {bx : Nat} {s : List UInt8} {P O : Int} {inf : List Dsc} {a : Option Addr} {n c : Nat} {r : List UInt8} {acc : List (List Dsc × List Dsc)} {es : List EnR} {ae : Option Addr} {ne ce : Nat} {wr : World} (h : RbK wM bx s P O inf a n c r acc es ae ne ce wr) (h0 : r ≠ []) (he : (tkE r).2.2 ≠ 0) : ∀ y, okI y → bytI y ≠ s := fun y hy hb => by
  obtain ⟨_, _, _, rem, e4, e5⟩ := h.sp y hy hb
  obtain ⟨p', t, rfl, e6⟩ := sp_step hy e4 e5 h0
  rw [e6] at he
  exact he rfl
def RbJ (wA : World) (b : Nat) (s : ByteArray) (ac : Act) (w' : World) : Prop :=
  ∃ (wM : World) (bx Y : Nat) (P O : Int) (inf : List Dsc) (a : Option Addr) (n c : Nat) (r : List UInt8) (acc : List (List Dsc × List Dsc)) (es : List EnR) (ae : Option Addr) (ne ce : Nat),
    RbK wM bx (ls s) P O inf a n c r acc es ae ne ce w' ∧ IsE rowD wM a n inf ∧ n ≤ 4095 ∧ (∀ x, a = some x → b < x.block) ∧ Keeps wA wM ∧
    ac.tmps.size = 60 ∧ ac.defers = [] ∧ ac.tmps.toList.take 10 = [.string s, undef, .pointer (some ⟨b, 0, none⟩), .int .i64 0, .int .i64 4, .pointer (some ⟨Y, 0, none⟩), .slice a n c, .string (st r), .int .i64 0, .pointer (some ⟨bx, 0, none⟩)]
end Go.Proofs.YtlghkdkaifcliaaDoor
