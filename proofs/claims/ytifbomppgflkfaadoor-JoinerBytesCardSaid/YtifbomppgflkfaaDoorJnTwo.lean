/-
  One joiner, and two of them, in memory, with rows beside them; packets of sections in order (for layer 16's statements). Nothing is said of how a joiner is laid.
-/
import Derived.Test.YtifbomppgflkfaaDoorJnLaw
import Derived.Test.YtifbomppgflkfaaDoorJnP
import Derived.Test.YtifbomppgflkfaaDoorJnC
import Derived.Test.YtifbomppgflkfaaDoorPrOut
namespace Go.Proofs.YtifbomppgflkfaaDoor
open Go.RowKit Gf Pk Pr Jn
set_option maxRecDepth 100000
/-- A joiner, of the blocks S, that has gone on from the world wL, where it had the blocks S0. -/
structure One16 (A : JnApi) (S0 : Nat → Prop) (wL : World) (p : Nat) (S : Nat → Prop) (J : JS) (wr : World) : Prop where
  a : A.At S p 17 J wr
  f : Foot S0 wL wr
  g : Grew S0 S wL
theorem One16.go {A : JnApi} {S0 S S' : Nat → Prop} {wL wr w' : World} {p : Nat} {J J' : JS} (h : One16 A S0 wL p S J wr) (at' : A.At S' p 17 J' w') (f : Foot S wr w') (g : Grew S S' wr) : One16 A S0 wL p S' J' w' :=
  ⟨at', h.f.trans h.g f, h.g.trans h.f.size g⟩
theorem One16.keeps {A : JnApi} {S0 S : Nat → Prop} {wL wr w' : World} {p : Nat} {J : JS} (h : One16 A S0 wL p S J wr) (k : Keeps wr w') : One16 A S0 wL p S J w' :=
  ⟨A.foot h.a (k.foot (fun _ => False)) (fun _ _ x => x), h.f.same (k.foot S0), h.g⟩
/-- Behind a write to what is new since wL and not the joiner's. -/
theorem One16.grown {A : JnApi} {S0 S : Nat → Prop} {wL wr w' : World} {p : Nat} {J : JS} {r : Option Nat} (h : One16 A S0 wL p S J wr) (k : wr.grownBy w' r) (hn : ∀ b, r = some b → ¬ S b ∧ wL.heap.size ≤ b) : One16 A S0 wL p S J w' := by
  have ff : Foot (fun b => r = some b) wr w' := Foot.grown k fun b hb => hb
  exact ⟨A.foot h.a ff (fun b hs hb => (hn b hb).1 hs), h.f.trans (S' := fun b => r = some b) (fun b hb => .inr (hn b hb).2) ff, h.g⟩
/-- Two joiners apart from one another. -/
structure Two16 (A : JnApi) (S0 : Nat → Prop) (wL : World) (p q : Nat) (Sa Sb : Nat → Prop) (J K : JS) (wr : World) : Prop where
  a : A.At Sa p 17 J wr
  b : A.At Sb q 17 K wr
  d : ∀ x, Sa x → ¬ Sb x
  f : Foot S0 wL wr
  ga : Grew S0 Sa wL
  gb : Grew S0 Sb wL
section
variable {A : JnApi} {S0 Sa Sb S' : Nat → Prop} {wL wr w' : World} {p q : Nat} {J J' K : JS}
theorem Two16.fa (h : Two16 A S0 wL p q Sa Sb J K wr) (at' : A.At S' p 17 J' w') (f : Foot Sa wr w') (g : Grew Sa S' wr) : Two16 A S0 wL p q S' Sb J' K w' :=
  ⟨at', A.foot h.b f (fun x hb ha => h.d x ha hb), fun x hx hb => (g x hx).elim (fun y => h.d x y hb) (fun y => by have := A.old h.b x hb; omega), h.f.trans h.ga f, h.ga.trans h.f.size g, h.gb⟩
theorem Two16.fb (h : Two16 A S0 wL p q Sa Sb J K wr) (at' : A.At S' q 17 J' w') (f : Foot Sb wr w') (g : Grew Sb S' wr) : Two16 A S0 wL p q Sa S' J J' w' :=
  ⟨A.foot h.a f (fun x ha hb => h.d x ha hb), at', fun x ha hx => (g x hx).elim (fun y => h.d x ha y) (fun y => by have := A.old h.a x ha; omega), h.f.trans h.gb f, h.ga, h.gb.trans h.f.size g⟩
theorem Two16.keeps (h : Two16 A S0 wL p q Sa Sb J K wr) (k : Keeps wr w') : Two16 A S0 wL p q Sa Sb J K w' :=
  ⟨A.foot h.a (k.foot (fun _ => False)) (fun _ _ x => x), A.foot h.b (k.foot (fun _ => False)) (fun _ _ x => x), h.d, h.f.same (k.foot S0), h.ga, h.gb⟩
end
/-- A row of packets that lies apart from S0 is read behind all that turns. -/
theorem pk16_range {S0 : Nat → Prop} {wL : World} {a : Option Addr} {len : Nat} {l : List Pkt} (h : IsE pktT wL a len l) (hn : ∀ x, a = some x → ¬ S0 x.block) {i : Nat} (hi : i < l.length) :
    ∃ b off, a = some ⟨b, off, none⟩ ∧ ∀ W, Foot S0 wL W → W.rangeAt b (off + i * 5) (pkC l[i]) := by
  obtain ⟨b, off, ha, _, _⟩ := h.get hi
  refine ⟨b, off, ha, fun W f => ?_⟩
  obtain ⟨b', off', ha', _, hr⟩ := (h.foot f hn).range hi
  rw [ha] at ha'; cases ha'
  exact hr
theorem pkF_get {count : Int} {b : List (Bool × List UInt8)} : ∀ {n i : Nat} (_ : i < n) (hb : i < b.length), (pkF count b n)[i]? = some (bdP count b[i] i)
  | n + 1, i, hi, hb => by
    have hl := pkF_length count b n
    show (pkF count b n ++ [bdP count (b.getD n (false, [])) n])[i]? = _
    by_cases h : i < n
    · rw [List.getElem?_append_left (by omega)]; exact pkF_get h hb
    · obtain rfl : i = n := by omega
      rw [List.getElem?_append_right (by omega), hl, Nat.sub_self, List.getElem?_cons_zero, List.getD_eq_getElem?_getD, List.getElem?_eq_getElem hb]; rfl
/-- The sections of bodies may be. -/
theorem secsB_ok {L : List (List UInt8)} (h : ∀ s ∈ L, s.length ≤ 1400) : ∀ s ∈ secsB L, Jn.okS s := by
  intro s hs
  obtain ⟨x, hx, rfl⟩ := List.mem_map.1 hs
  exact okS_mdB (by rw [st_size]; have := h x hx; omega)
theorem secsB_sizes {L : List (List UInt8)} (h : ∀ s ∈ L, s.length ≤ 1400) : ∀ x ∈ bodies (secsB L), 183 ≤ x.2.length ∧ x.2.length ≤ 184 :=
  bodies_sizes fun s hs => by have := secsB_len h s hs; omega
theorem fewJ_iff {L : List (List UInt8)} (h : fewJ L = true) : (∀ s ∈ L, s.length ≤ 1400) ∧ L.length ≤ 20 := by unfold fewJ at h; simpa using h
theorem IsT.rows {w : World} {a : Option Addr} {len : Nat} {l : List (List UInt8)} (h : IsT w a len l) : IsE rowT w a len l :=
  ⟨h.1, fun h0 => by
    obtain ⟨b, off, ha, hb, hc⟩ := h.2 h0
    refine ⟨b, off, ha, hb, fun i u hu => ?_⟩
    rw [rowT_cells, List.getElem?_map] at hu
    obtain ⟨x, hx, rfl⟩ := Option.map_eq_some_iff.1 hu
    have := hc i (List.getElem?_eq_some_iff.1 hx).1
    rw [List.getD_eq_getElem?_getD, hx] at this
    exact this⟩
theorem catNone16 (a : Option Addr) (len cap : Nat) (hlc : len ≤ cap) (ax : Option Addr) (c : Nat) (ty : TypeId) (w : World) : (Builtin.append_ #[33, 33] ty #[.slice a len cap, .slice ax 0 c]).run Tryd.prog w = .ok (.slice a len cap) w := by
  have hst : ∀ (p : Addr) (w : World), (storeCells p []).run Tryd.prog w = .ok () w := fun _ _ => rfl
  obtain ⟨i0, hi, -, -, -⟩ := info_parts rowT.info
  have hi' : Tryd.prog.info? 9 = some i0 := hi
  cases ax <;> cases a <;> simp [hlc, hst, Builtin.append_, run_underlying Tryd.underlying33, Builtin.lenOf, Builtin.firstCells, sizeOf, typeInfo, hi', loadCells, loadCellsFrom]
theorem wp_cat16 {ops : Array Oper} {rest : List Oper} {o : Oper} {a : Act} {Q : Exit → Act → World → Prop} {wr : World} (hgd : o.guard = none) (s x : Operand)
    (ho : o.op = .call { callee := .builtin .append, args := #[s, x], argTypes := #[33, 33] }) {base : Nat} {v : Value} {l L : List (List UInt8)} (hown : OwnE rowT wr base v l)
    {ax : Option Addr} {n c : Nat} (hs : a.eval s = v) (hx : a.eval x = .slice ax n c) (hI : IsT wr ax n L) (hl : l.length + L.length ≤ 1000000000) (hb : base ≤ wr.heap.size)
    (h : ∀ v' w', OwnE rowT w' base v' (l ++ L) → wr.grownBy w' v.ownBlock → (v'.ownBlock = v.ownBlock ∨ v'.ownBlock = some wr.heap.size) → wpList Tryd.prog ops Q rest (a.put o.dst v') w') :
    wpList Tryd.prog ops Q (o :: rest) a wr := by
  by_cases h0 : L = []
  · subst h0
    obtain rfl : n = 0 := hI.1
    obtain ⟨va, vc, hv, _, hlc⟩ := hown.is
    refine wpList_plain hgd fun _ hK => ?_
    have e : (execOp a.eval o).run Tryd.prog wr = .ok (.value v) wr := by
      rw [hv] at hs ⊢
      unfold execOp
      simp [ho, resolve, invoke, builtin, hs, hx, catNone16 _ _ _ hlc, Result.andThen]
    unfold Oper.wp
    rw [e, Oper.upon_value]
    exact hK _ _ (h _ _ (by rw [List.append_nil]; exact hown) (World.grownBy.refl _ _) (.inl rfl))
  · exact wp_catE (T := rowT) hgd s x ho hown hs hx hI.rows h0 hl hb h
end Go.Proofs.YtifbomppgflkfaaDoor
