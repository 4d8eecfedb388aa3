/-
  What begin, ended and next of a cut, and body of a share, of package packer answer. Blocks other than the cut's own, and the share's, stay.
-/
import Derived.Test.YtaabfkffemnidaaDoorFoot
import Derived.Test.YtaabfkffemnidaaDoorPrLib
import Derived.Test.YtaabfkffemnidaaDoorPrA
import Derived.Test.YtaabfkffemnidaaDoorPrOut
namespace Go.Proofs.YtaabfkffemnidaaDoor
open Go.RowKit Gf Pk Pr
set_option maxRecDepth 100000
def zs (ns : List Nat) : List Int := ns.map fun n : Nat => (n : Int)
theorem zs_length (ns : List Nat) : (zs ns).length = ns.length := List.length_map ..
/-- Block b holds a cut: what is left of a section, and the sizes of those that follow, a row that is older. -/
structure CutAt (b l : Nat) (ns : List Nat) (a : Option Addr) (cap : Nat) (w : World) : Prop where
  c : CsAt b [.int .i64 (l : Int), .slice a ns.length cap] w
  r : IsE rowZ w a ns.length (zs ns)
  n : ns.length ≤ cap
  d : ns ≠ [] → ∀ p, a = some p → p.block < b
theorem CutAt.eqv {b l : Nat} {ns : List Nat} {a : Option Addr} {cap : Nat} {w w' : World} (h : CutAt b l ns a cap w) (k : Eqv w w') : CutAt b l ns a cap w' := ⟨h.c.eqv k, h.r.eqv k, h.n, h.d⟩
theorem CutAt.keeps {b l : Nat} {ns : List Nat} {a : Option Addr} {cap : Nat} {w w' : World} (h : CutAt b l ns a cap w) (k : Keeps w w') : CutAt b l ns a cap w' := ⟨h.c.keeps k, h.r.keeps k, h.n, h.d⟩
theorem CutAt.row {b l : Nat} {ns : List Nat} {a : Option Addr} {cap : Nat} {w w' : World} {S : Nat → Prop} (h : CutAt b l ns a cap w) (k : Foot S w w') (hn : ∀ i, i < b → ¬ S i) : IsE rowZ w' a ns.length (zs ns) := by
  by_cases e : ns = []
  · subst e; exact IsE.nil _ _
  · exact h.r.foot k (fun p hp => hn _ (h.d e p hp))
theorem CutAt.foot {b l : Nat} {ns : List Nat} {a : Option Addr} {cap : Nat} {w w' : World} {S : Nat → Prop} (h : CutAt b l ns a cap w) (k : Foot S w w') (hn : ∀ i, i ≤ b → ¬ S i) : CutAt b l ns a cap w' :=
  ⟨h.c.foot k (hn b (Nat.le_refl _)), h.row k (fun i hi => hn i (Nat.le_of_lt hi)), h.n, h.d⟩
/-- The first size. -/
theorem CutAt.get {b l n : Nat} {ns : List Nat} {a : Option Addr} {cap : Nat} {w : World} (h : CutAt b l (n :: ns) a cap w) :
    ∃ g off, a = some ⟨g, off, none⟩ ∧ g < b ∧ w.cell? ⟨g, off, none⟩ = some (.int .i64 (n : Int)) := by
  obtain ⟨g, off, ha, _, hc⟩ := h.r.get (i := 0) (by show 0 < (zs (n :: ns)).length; rw [zs_length]; exact Nat.succ_pos _)
  exact ⟨g, off, ha, h.d (by simp) _ ha, hc 0 _ rfl⟩
/-- One size less. -/
theorem CutAt.next {b l m n : Nat} {ns : List Nat} {g off cap : Nat} {w w' : World} {S : Nat → Prop} (h : CutAt b l (n :: ns) (some ⟨g, off, none⟩) cap w) (k : Foot S w w') (hn : ∀ i, i < b → ¬ S i)
    {a : Option Addr} {c' : Nat} (hc : CsAt b [.int .i64 (m : Int), .slice a ns.length c'] w') (ha : a = some ⟨g, off + 1, none⟩ ∧ c' = cap - 1 ∨ ns = [] ∧ a = some ⟨g, off, none⟩ ∧ c' = 0) : CutAt b m ns a c' w' := by
  have hg := h.d (by simp) _ rfl
  refine ⟨hc, ?_, ?_, ?_⟩
  · rcases ha with ⟨rfl, _⟩ | ⟨rfl, _, _⟩
    · have h1 := (h.row k hn).drop (i := 1) (by rw [zs_length]; exact Nat.succ_le_succ (Nat.zero_le _))
      exact h1
    · exact IsE.nil _ _
  · have := h.n
    rw [List.length_cons] at this
    rcases ha with ⟨_, rfl⟩ | ⟨rfl, _, rfl⟩
    · omega
    · exact Nat.le_refl _
  · rcases ha with ⟨rfl, _⟩ | ⟨_, rfl, _⟩
    · intro _ p hp; cases hp; exact hg
    · intro _ p hp; cases hp; exact hg
theorem Turn.cellOf {p q : Nat} {wA w5 : World} {ad : Addr} {v : Value} {C : World → Prop} {L : Nat → Bool} (hw : Turn p q (Eqv wA) (Eqv (wA.setCell ad v)) C L w5) (hq : L q = false) {x : Addr} (hn : ad ≠ x) {u : Value} (h : wA.cell? x = some u) : w5.cell? x = some u := by
  cases e : L p with
  | false => exact (Eqv.cell (hw.1 e) x).trans h
  | true => exact (Eqv.cell (hw.2.1 e hq) x).trans ((World.cell?_setCell_other _ _ _ _ hn).trans h)
def lenC (w : World) (b : Nat) : Nat := match w.cell? ⟨b, 1, none⟩ with
  | some (.slice _ n _) => n
  | _ => 0
theorem CutAt.lenC {b l : Nat} {ns : List Nat} {a : Option Addr} {cap : Nat} {w : World} (h : CutAt b l ns a cap w) : lenC w b = ns.length := by
  unfold Go.Proofs.YtaabfkffemnidaaDoor.lenC; rw [h.c.cell 1 rfl]
def BgS (bc bs : Nat) (k : Nat) : Prop := k = bc ∨ k = bs
structure BgIn (w : World) (bc bs : Nat) (ns : List Nat) (r f l : Nat) (ms : List Nat) (x g : Nat) (a : Option Addr) (cap : Nat) (wr : World) : Prop where
  c : CutAt bc l ms a cap wr
  s : CsAt bs [.bool true, .int .i64 (r : Int), .int .i64 (x : Int), .int .i64 (g : Int)] wr
  e : EatAt ns f l ms g
  x : x + g = f
  k : Foot (BgS bc bs) w wr
def BgPost (w : World) (bc bs : Nat) (ns : List Nat) (r f : Nat) (e : Ending) (w' : World) : Prop :=
  e = .returned (.tuple #[]) ∧ ∃ a cap, CutAt bc (eat ns f).1 (eat ns f).2 a cap w' ∧ CsAt bs [.bool true, .int .i64 (r : Int), .int .i64 ((min f ns.sum : Nat) : Int), .int .i64 ((f - ns.sum : Nat) : Int)] w' ∧ Foot (BgS bc bs) w w'
theorem BgIn.done {w : World} {bc bs : Nat} {ns : List Nat} {r f l : Nat} {ms : List Nat} {x g : Nat} {a : Option Addr} {cap : Nat} {wr : World} (h : BgIn w bc bs ns r f l ms x g a cap wr) (hd : g = 0 ∨ ms = []) : BgPost w bc bs ns r f (.returned (.tuple #[])) wr := by
  obtain ⟨e1, e2⟩ := h.e.done hd
  refine ⟨rfl, a, cap, by rw [e1]; exact h.c, ?_, h.k⟩
  have hx := h.x
  rw [show min f ns.sum = x by omega, ← e2]
  exact h.s
theorem BgIn.next {w : World} {bc bs : Nat} {ns : List Nat} {r f l n : Nat} {ms : List Nat} {x g : Nat} {gb off : Nat} {cap : Nat} {wr w1 w2 w3 w4 : World} (h : BgIn w bc bs ns r f l (n :: ms) x g (some ⟨gb, off, none⟩) cap wr) (hbb : bc < bs) (hg : 0 < g) (hn : 0 < n)
    {d x1 g1 l1 : Nat} (hd : min g n = d) (hx1 : x + d = x1) (hg1 : g - d = g1) (hl1 : n - d = l1)
    (e1 : Eqv (wr.setCell ⟨bs, 2, none⟩ (.int .i64 (x1 : Int))) w1) (e2 : Eqv (w1.setCell ⟨bs, 3, none⟩ (.int .i64 (g1 : Int))) w2) (e3 : Eqv (w2.setCell ⟨bc, 0, none⟩ (.int .i64 (l1 : Int))) w3)
    {a : Option Addr} {c' : Nat} (e4 : Eqv (w3.setCell ⟨bc, 1, none⟩ (.slice a ms.length c')) w4) (ha : a = some ⟨gb, off + 1, none⟩ ∧ c' = cap - 1 ∨ ms = [] ∧ a = some ⟨gb, off, none⟩ ∧ c' = 0) : BgIn w bc bs ns r f l1 ms x1 g1 a c' w4 := by
  have hne : bs ≠ bc := by omega
  have s1 := (h.s.set 2 (by show 2 < 4; decide) (.int .i64 (x1 : Int))).eqv e1
  have s2 := (s1.set 3 (by show 3 < 4; decide) (.int .i64 (g1 : Int))).eqv e2
  have s3 := ((s2.only hne (Only.setCell w2 ⟨bc, 0, none⟩ (.int .i64 (l1 : Int)))).eqv e3)
  have s4 := ((s3.only hne (Only.setCell w3 ⟨bc, 1, none⟩ (.slice a ms.length c'))).eqv e4)
  have c1 := (h.c.c.only hne.symm (Only.setCell wr ⟨bs, 2, none⟩ (.int .i64 (x1 : Int)))).eqv e1
  have c2 := (c1.only hne.symm (Only.setCell w1 ⟨bs, 3, none⟩ (.int .i64 (g1 : Int)))).eqv e2
  have c3 := (c2.set 0 (by show 0 < 2; decide) (.int .i64 (l1 : Int))).eqv e3
  have c4 := (c3.set 1 (by show 1 < 2; decide) (.slice a ms.length c')).eqv e4
  have f1 : Foot (BgS bc bs) wr w1 := (Foot.setCell (S := BgS bc bs) (p := ⟨bs, 2, none⟩) (.inr rfl)).same (Foot.eqv e1)
  have f2 : Foot (BgS bc bs) w1 w2 := (Foot.setCell (S := BgS bc bs) (p := ⟨bs, 3, none⟩) (.inr rfl)).same (Foot.eqv e2)
  have f3 : Foot (BgS bc bs) w2 w3 := (Foot.setCell (S := BgS bc bs) (p := ⟨bc, 0, none⟩) (.inl rfl)).same (Foot.eqv e3)
  have f4 : Foot (BgS bc bs) w3 w4 := (Foot.setCell (S := BgS bc bs) (p := ⟨bc, 1, none⟩) (.inl rfl)).same (Foot.eqv e4)
  have ff := f1.same (f2.same (f3.same f4))
  have hx := h.x
  refine ⟨h.c.next ff (fun i hi e => e.elim (fun e => by omega) (fun e => by omega)) c4 ha, s4, ?_, by omega, h.k.same ff⟩
  subst hd hg1 hl1
  exact h.e.next hg hn
def bgRel (w : World) (bc bs : Nat) (ns : List Nat) (r f : Nat) (wr : World) : Prop := ∃ (l : Nat) (ms : List Nat) (x g : Nat) (a : Option Addr) (cap : Nat), BgIn w bc bs ns r f l ms x g a cap wr
set_option maxHeartbeats 6400000 in
theorem prbegin_any (bc bs r f : Nat) {ns : List Nat} {a : Option Addr} {cap : Nat} (w : World) (hf : f ≤ 184) (hn : ∀ n ∈ ns, 1 ≤ n ∧ n ≤ 4096) (hl : ns.length ≤ 1000) (hc : CutAt bc 0 ns a cap w)
    (hs : CsAt bs [.bool true, .int .i64 (r : Int), .int .i64 0, .int .i64 (f : Int)] w) (hb : bc < bs) :
    Calls Tryd.prog 33 #[.pointer (some ⟨bc, 0, none⟩), .pointer (some ⟨bs, 0, none⟩)] w (BgPost w bc bs ns r f) := by
  have HB := Lib.hid (show bgRel w bc bs ns r f w from ⟨0, ns, 0, f, a, cap, hc, hs, EatAt.start ns f, Nat.zero_add _, Foot.refl _ _⟩)
  have HN := Lib.hid hn
  have HL := Lib.hid hl
  have HBB := Lib.hid hb
  clear hc hs hn hl hb
  go_enter Tryd.func33, Tryd.ntmps33
  go_wp2
  go_loopw [] (fun wr => bgRel w bc bs ns r f wr) (fun wr => lenC wr bc)
  case atStart => exact HB.out
  case round =>
    obtain ⟨l, ms, x, g, a, cap, hI⟩ := hrel
    have HI := Lib.hid hI
    have hx := hI.x
    have q0 := hI.c.c.cell 0 rfl
    have q1 := hI.c.c.cell 1 rfl
    have q2 := hI.s.cell 2 rfl
    have q3 := hI.s.cell 3 rfl
    have hml : ms.length ≤ 1000 := by
      obtain ⟨_, _, _, p, hp⟩ := hI.e
      have := congrArg List.length hp
      rw [List.length_append] at this
      have := HL.out; omega
    have hmn : ∀ n ∈ ms, 1 ≤ n ∧ n ≤ 4096 := fun n hn => by
      obtain ⟨_, _, _, p, hp⟩ := hI.e
      exact HN.out n (by rw [hp]; exact List.mem_append_right _ hn)
    clear hI
    by_cases hg : g = 0
    · subst hg
      have HD := Lib.hid (HI.out.done (.inl rfl))
      clear hx hmn
      go_wp2
      go_end0
      exact HD.out
    · cases ms with
      | nil =>
        have HD := Lib.hid (HI.out.done (.inr rfl))
        have hgI : (0 : Int) < (g : Int) := by omega
        simp only [List.length_nil] at q1
        clear hx hmn hml
        go_wp2
        go_end0
        exact HD.out
      | cons n t =>
        have hgI : (0 : Int) < (g : Int) := by omega
        obtain ⟨hn1, hn2⟩ := hmn n (List.mem_cons_self ..)
        obtain ⟨gb, off, rfl, hgb, cg⟩ := HI.out.c.get
        have hcap := HI.out.c.n
        simp only [List.length_cons] at q1 hml hcap
        obtain ⟨m, hm⟩ : ∃ m, t.length = m := ⟨_, rfl⟩
        rw [hm] at q1 hml hcap
        have HM := Lib.hid hm
        obtain ⟨d, hd⟩ : ∃ d, min g n = d := ⟨_, rfl⟩
        obtain ⟨x1, hx1⟩ : ∃ x1, x + d = x1 := ⟨_, rfl⟩
        obtain ⟨g1, hg1⟩ : ∃ g1, g - d = g1 := ⟨_, rfl⟩
        obtain ⟨l1, hl1⟩ : ∃ l1, n - d = l1 := ⟨_, rfl⟩
        have hmI : min (g : Int) (n : Int) = (d : Int) := by omega
        have hxI : (x : Int) + (d : Int) = (x1 : Int) := by omega
        have hgI2 : (g : Int) - (d : Int) = (g1 : Int) := by omega
        have hlI : (n : Int) - (d : Int) = (l1 : Int) := by omega
        have hmI2 : (0 : Int) < (m : Int) + 1 := by omega
        have HNX := Lib.hid (fun w1 w2 w3 w4 e1 e2 e3 a c' e4 ha => HI.out.next (w1 := w1) (w2 := w2) (w3 := w3) (w4 := w4) HBB.out (by omega) hn1 hd hx1 hg1 hl1 e1 e2 e3 (a := a) (c' := c') e4 ha)
        have hgb1 : g1 ≤ 200 := by omega
        have hxb1 : x1 ≤ 200 := by omega
        have hlb1 : l1 ≤ 4096 := by omega
        have hdb : d ≤ 200 := by omega
        have wr1 := wrapI (a := (x1 : Int)) (by omega) (by omega)
        have wr2 := wrapI (a := (g1 : Int)) (by omega) (by omega)
        have wr3 := wrapI (a := (l1 : Int)) (by omega) (by omega)
        have HGB := Lib.hid hgb
        clear hg hx hmn hm hd hx1 hg1 hl1 hgb hn1
        go_wp2
        go_quiet (fail)
        obtain ⟨wq, hwq⟩ : ∃ w, wr.drewN nq = w := ⟨_, rfl⟩
        have eq := Eqv.drewN wr nq
        rw [hwq] at eq
        rw [hwq]
        have hnx := fun w1 w2 w3 w4 (e1 : Eqv (wq.setCell ⟨bs, 2, none⟩ (.int .i64 (x1 : Int))) w1) => HNX.out w1 w2 w3 w4 ((eq.setCell ⟨bs, 2, none⟩ (.int .i64 (x1 : Int))).trans e1)
        replace HNX := Lib.hid hnx
        have q0 := (eq.cell _).trans q0
        have q1 := (eq.cell _).trans q1
        have q2 := (eq.cell _).trans q2
        have q3 := (eq.cell _).trans q3
        have cg := (eq.cell _).trans cg
        have HSS := Lib.hid (HI.out.s.eqv eq)
        have HCC := Lib.hid (HI.out.c.c.eqv eq)
        have f2 := HSS.out.fz 2 (by show 2 < 4; decide)
        clear hwq eq hnx
        go_wp2
        refine wp_draw (by kernel_rfl)
          [.pointer (some ⟨bs, 0, none⟩), .pointer (some ⟨bs, 0, none⟩), .pointer (some ⟨bs, 0, none⟩), .pointer (some ⟨bs, 0, none⟩), .pointer (some ⟨bs, 2, none⟩), .int .i64 (x : Int), .int .i64 (d : Int), .int .i64 (x1 : Int), .pointer (some ⟨bs, 0, none⟩), .pointer (some ⟨bs, 0, none⟩), .pointer (some ⟨bs, 3, none⟩), .int .i64 (g : Int), .int .i64 (d : Int), .int .i64 (g1 : Int), .pointer (some ⟨bs, 0, none⟩), .pointer (some ⟨bs, 2, none⟩), undef, .pointer (some ⟨bs, 0, none⟩), .pointer (some ⟨bs, 3, none⟩), undef]
          (Turn 16 19 (Eqv wq) (Eqv (wq.setCell ⟨bs, 2, none⟩ (.int .i64 (x1 : Int)))) (Eqv ((wq.setCell ⟨bs, 2, none⟩ (.int .i64 (x1 : Int))).setCell ⟨bs, 3, none⟩ (.int .i64 (g1 : Int)))))
          rfl (by kernel_rfl) (fin := ?fin1) ?hfin1 (Turn.start (Eqv.drew wq)) ?each1 ?hend1
        case hfin1 => simp [seqA, dstOf, Act.put]; rfl
        case each1 =>
          refine ⟨?_, ?_, ?_, ?_, ?_, ?_, ?_, ?_, ?_, ?_, ?_, ?_, ?_, ?_, ?_, ?_, ?_, ?_, ?_, ?_, trivial⟩
          all_goals intro L w5 h0 hd hsh hw
          all_goals unfold Does
          all_goals try simp only [Nat.zero_add, Nat.reduceAdd] at h0
          rotate_left 5
          · have c2 := (Eqv.cell (hw.1 (hsh.no (i := 5) (by kernel_rfl) h0)) _).trans q2
            go_simp; exact fun L' k => hw.same (by decide) (by decide) k
          rotate_left 5
          · have c3 := hw.cellOf (hsh.no (i := 11) (by kernel_rfl) h0) (x := ⟨bs, 3, none⟩) (by intro e; cases e) q3
            go_simp; exact fun L' k => hw.same (by decide) (by decide) k
          rotate_left 4
          · have hA := hw.1 h0
            have c2 := (hA.cell _).trans q2
            have g2 := (hA.frozen _).trans f2
            go_simp
            exact fun L' k => Turn.first (hsh.no (by kernel_rfl) h0) (by decide) k (hA.setCell _ _)
          rotate_left 2
          · have h6 := hd 16 (by kernel_rfl)
            have hB := hw.2.1 h6 h0
            have c3 := ((HSS.out.set 2 (by show 2 < 4; decide) (.int .i64 (x1 : Int))).eqv hB).cell 3 rfl
            have g3 := ((HSS.out.set 2 (by show 2 < 4; decide) (.int .i64 (x1 : Int))).eqv hB).fz 3 (by show 3 < 4; decide)
            go_simp
            exact fun L' k => Turn.second h6 k (hB.setCell _ _)
          all_goals (go_simp; exact fun L' k => hw.same (by decide) (by decide) k)
        case hend1 =>
        intro L w2 hL hw
        have hC := hw.2.2 (hL 19 (by simp))
        clear hw hL
        have hnx := fun w3 w4 => HNX.out _ w2 w3 w4 (Eqv.refl _) hC
        have hnb : bc ≠ bs := by have := HBB.out; omega
        have HC2 := Lib.hid (((HCC.out.only hnb (Only.setCell wq ⟨bs, 2, none⟩ (.int .i64 (x1 : Int)))).only hnb (Only.setCell _ ⟨bs, 3, none⟩ (.int .i64 (g1 : Int)))).eqv hC)
        have hnn : ∀ o, (⟨bs, o, none⟩ : Addr) ≠ ⟨gb, off, none⟩ := fun o e => by have h1 := congrArg Addr.block e; have h2 := HGB.out; have h3 := HBB.out; simp only at h1; omega
        have cg2 : w2.cell? ⟨gb, off, none⟩ = some (.int .i64 (n : Int)) := (hC.cell _).trans ((World.cell?_setCell_other _ _ _ _ (hnn 3)).trans ((World.cell?_setCell_other _ _ _ _ (hnn 2)).trans cg))
        have Q1 : w2.cell? ⟨bc, 1, none⟩ = some (.slice (some ⟨gb, off, none⟩) (m + 1) cap) := by rw [← HM.out]; exact HC2.out.cell 1 rfl
        have hs1 : (1 : Int) ≤ (m : Int) + 1 := by omega
        have HGN := Lib.hid (show ∀ o, (⟨bc, o, none⟩ : Addr) ≠ ⟨gb, off, none⟩ from fun o e => by have := congrArg Addr.block e; have h2 := HGB.out; simp only at this; omega)
        replace HNX := Lib.hid hnx
        have HX : ∃ (X : Option Addr) (c' : Nat), (X = some ⟨gb, off + 1, none⟩ ∧ c' = cap - 1 ∧ ¬ cap = 1 ∨ m = 0 ∧ X = some ⟨gb, off, none⟩ ∧ c' = 0 ∧ cap = 1) := by
          by_cases h1 : cap = 1
          · exact ⟨_, _, .inr ⟨by omega, rfl, rfl, h1⟩⟩
          · exact ⟨_, _, .inl ⟨rfl, rfl, h1⟩⟩
        obtain ⟨X, c', hX⟩ := HX
        have HXX := Lib.hid hX
        clear hC hnx q0 q1 q2 q3 cg f2 hX hnn
        go_wp2
        refine wp_draw (by kernel_rfl)
          [.pointer (some ⟨bc, 0, none⟩), .pointer (some ⟨bc, 0, none⟩), .pointer (some ⟨bc, 0, none⟩), .pointer (some ⟨bc, 0, none⟩), .pointer (some ⟨bc, 1, none⟩), .slice (some ⟨gb, off, none⟩) (m + 1) cap, .pointer (some ⟨gb, off, none⟩), .int .i64 (n : Int), .int .i64 (d : Int), .int .i64 (l1 : Int), .pointer (some ⟨bc, 0, none⟩), .pointer (some ⟨bc, 0, none⟩), .pointer (some ⟨bc, 1, none⟩), .slice (some ⟨gb, off, none⟩) (m + 1) cap, .slice X m c', .pointer (some ⟨bc, 0, none⟩), .pointer (some ⟨bc, 0, none⟩), undef, .pointer (some ⟨bc, 0, none⟩), .pointer (some ⟨bc, 1, none⟩), undef]
          (Turn 17 20 (Eqv w2) (Eqv (w2.setCell ⟨bc, 0, none⟩ (.int .i64 (l1 : Int)))) (Eqv ((w2.setCell ⟨bc, 0, none⟩ (.int .i64 (l1 : Int))).setCell ⟨bc, 1, none⟩ (.slice X m c'))))
          rfl (by kernel_rfl) (fin := ?fin2) ?hfin2 (Turn.start (Eqv.drew w2)) ?each2 ?hend2
        case hfin2 => simp [seqA, dstOf, Act.put]; rfl
        case each2 =>
          refine ⟨?_, ?_, ?_, ?_, ?_, ?_, ?_, ?_, ?_, ?_, ?_, ?_, ?_, ?_, ?_, ?_, ?_, ?_, ?_, ?_, ?_, trivial⟩
          all_goals intro L w5 h0 hd hsh hw
          all_goals unfold Does
          all_goals try simp only [Nat.zero_add, Nat.reduceAdd] at h0
          rotate_left 5
          · have c1 := hw.cellOf (hsh.no (i := 5) (by kernel_rfl) h0) (x := ⟨bc, 1, none⟩) (by intro e; cases e) Q1
            go_simp; exact fun L' k => hw.same (by decide) (by decide) k
          rotate_left 1
          · have c1 := hw.cellOf (hsh.no (i := 7) (by kernel_rfl) h0) (x := ⟨gb, off, none⟩) (HGN.out 0) cg2
            go_simp; exact fun L' k => hw.same (by decide) (by decide) k
          rotate_left 5
          · have c1 := hw.cellOf (hsh.no (i := 13) (by kernel_rfl) h0) (x := ⟨bc, 1, none⟩) (by intro e; cases e) Q1
            go_simp; exact fun L' k => hw.same (by decide) (by decide) k
          · rcases HXX.out with ⟨rfl, rfl, h1⟩ | ⟨rfl, rfl, rfl, rfl⟩
            · go_simp; exact fun L' k => hw.same (by decide) (by decide) k
            · go_simp; exact fun L' k => hw.same (by decide) (by decide) k
          rotate_left 2
          · have hA := hw.1 h0
            have c2 := (HC2.out.eqv hA).cell 0 rfl
            have g2 := (HC2.out.eqv hA).fz 0 (by show 0 < 2; decide)
            go_simp
            exact fun L' k => Turn.first (hsh.no (by kernel_rfl) h0) (by decide) k (hA.setCell _ _)
          rotate_left 2
          · have h6 := hd 17 (by kernel_rfl)
            have hB := hw.2.1 h6 h0
            have c3 := ((HC2.out.set 0 (by show 0 < 2; decide) (.int .i64 (l1 : Int))).eqv hB).cell 1 rfl
            have g3 := ((HC2.out.set 0 (by show 0 < 2; decide) (.int .i64 (l1 : Int))).eqv hB).fz 1 (by show 1 < 2; decide)
            go_simp
            exact fun L' k => Turn.second h6 k (hB.setCell _ _)
          all_goals (go_simp; exact fun L' k => hw.same (by decide) (by decide) k)
        case hend2 =>
        intro L w4 hL hw
        have hC := hw.2.2 (hL 20 (by simp))
        clear hw hL
        have hlen0 := HI.out.c.lenC
        have hor : X = some ⟨gb, off + 1, none⟩ ∧ c' = cap - 1 ∨ t = [] ∧ X = some ⟨gb, off, none⟩ ∧ c' = 0 := by
          rcases HXX.out with ⟨h1, h2, _⟩ | ⟨h0, h1, h2, _⟩
          · exact .inl ⟨h1, h2⟩
          · exact .inr ⟨List.length_eq_zero_iff.1 (by rw [HM.out]; exact h0), h1, h2⟩
        have hI4 := HNX.out _ w4 (Eqv.refl _) X c' (by rw [HM.out]; exact hC) hor
        have hlen4 := hI4.c.lenC
        have HI4 := Lib.hid hI4
        clear hC hI4
        rw [List.length_cons] at hlen0
        have HLE := Lib.hid (show lenC w4 bc < lenC wr bc by rw [hlen0, hlen4]; omega)
        clear hlen0 hlen4
        go_wp2
        go_roundw
        case rel => exact ⟨_, _, _, _, _, _, HI4.out⟩
        case measure => exact HLE.out
theorem prended_any {b l : Nat} {ns : List Nat} {a : Option Addr} {cap : Nat} (w : World) (h : CutAt b l ns a cap w) :
    Calls Tryd.prog 18 #[.pointer (some ⟨b, 0, none⟩)] w fun e w' => e = .returned (.bool (decide (l + ns.length = 0))) ∧ w = w' := by
  have q0 := h.c.cell 0 rfl
  have q1 := h.c.cell 1 rfl
  clear h
  obtain ⟨m, hm⟩ : ∃ m, ns.length = m := ⟨_, rfl⟩
  rw [hm] at q1 ⊢
  clear hm
  by_cases h0 : l = 0
  · subst h0
    by_cases h1 : m = 0
    · subst h1
      go_enter Tryd.func18, Tryd.ntmps18
      go_wp2
      go_ret
      exact ⟨rfl, rfl⟩
    · have hb : ((m : Int) == 0) = false := by rw [beq_eq_false_iff_ne]; omega
      rw [decide_eq_false (by omega : ¬ 0 + m = 0)]
      clear h1
      go_enter Tryd.func18, Tryd.ntmps18
      go_wp2
      go_ret
      exact ⟨rfl, rfl⟩
  · have hb : ((l : Int) == 0) = false := by rw [beq_eq_false_iff_ne]; omega
    rw [decide_eq_false (by omega : ¬ l + m = 0)]
    clear h0
    go_enter Tryd.func18, Tryd.ntmps18
    go_wp2
    go_ret
    exact ⟨rfl, rfl⟩
end Go.Proofs.YtaabfkffemnidaaDoor
