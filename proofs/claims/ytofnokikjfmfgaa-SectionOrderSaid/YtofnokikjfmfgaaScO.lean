/-
  Rows of sections of the call's own: appended to, written in place, and what Join answers of a text's sections in another order. Of all values.
-/
import Derived.Test.YtofnokikjfmfgaaScG
import Derived.Test.YtofnokikjfmfgaaScJ
namespace Go.Proofs.Ytofnokikjfmfgaa
open Go.RowKit Gf Sct
set_option maxRecDepth 100000
theorem OwnE.blk {α : Type} {T : RowT α} {w : World} {base : Nat} {v : Value} {l : List α} (h : OwnE T w base v l) (hne : l ≠ []) : ∃ g cap, v = .slice (some ⟨g, 0, none⟩) l.length cap ∧ v.ownBlock = some g ∧ base ≤ g ∧ l.length ≤ cap ∧ g < w.heap.size := by
  obtain ⟨_, h'⟩ := id h
  rcases h' with ⟨_, h0⟩ | ⟨g, cap, cur, rfl, hb, hh, hn, _⟩
  · exact absurd (List.length_eq_zero_iff.1 h0) hne
  · exact ⟨g, cap, rfl, rfl, hb, hn, (Array.getElem?_eq_some_iff.1 hh).1⟩
theorem OwnE.secs {w : World} {base g cap n : Nat} {l : List Sec} (h : OwnE secT w base (.slice (some ⟨g, 0, none⟩) n cap) l) (hn : 0 < n) (hl : n = l.length) : SecRow secT g 0 n l w := by
  obtain ⟨a, c, he, hi, _⟩ := h.is
  simp only [Value.slice.injEq] at he
  obtain ⟨rfl, _, _⟩ := he
  obtain ⟨b, off, e, hr⟩ := row_of (T := secT) rfl (fun _ => rfl) hi (by omega)
  cases e
  rw [hl]; exact hr
theorem run_cat0 (a : Option Addr) (len cap : Nat) (hlc : len ≤ cap) (ax : Option Addr) (c : Nat) (ty : TypeId) (w : World) : (Builtin.append_ #[24, 24] ty #[.slice a len cap, .slice ax 0 c]).run Try.prog w = .ok (.slice a len cap) w := by
  have hst : ∀ (p : Addr) (w : World), (storeCells p []).run Try.prog w = .ok () w := fun _ _ => rfl
  cases ax <;> cases a <;> simp [hlc, hst, Builtin.append_, run_underlying Try.underlying24, Builtin.lenOf, Builtin.firstCells, Try.sizeOf29, loadCells, loadCellsFrom]
/-- 'v = append(v, x...)', v a row of sections of the call's own, x any other one, be it empty. -/
theorem wp_catS {ops : Array Oper} {rest : List Oper} {o : Oper} {a : Act} {Q : Exit → Act → World → Prop} {wr : World} (hgd : o.guard = none) (s x : Operand)
    (ho : o.op = .call { callee := .builtin .append, args := #[s, x], argTypes := #[24, 24] }) {base : Nat} {v : Value} {l L : List Sec} (hown : OwnE secT wr base v l)
    {ax : Option Addr} {n c : Nat} (hs : a.eval s = v) (hx : a.eval x = .slice ax n c) (hI : IsE secT wr ax n L) (hl : l.length + L.length ≤ 1000000000) (hb : base ≤ wr.heap.size)
    (h : ∀ v' w', OwnE secT w' base v' (l ++ L) → wr.grownBy w' v.ownBlock → wpList Try.prog ops Q rest (a.put o.dst v') w') :
    wpList Try.prog ops Q (o :: rest) a wr := by
  by_cases h0 : L = []
  · subst h0
    obtain rfl : n = 0 := hI.1
    obtain ⟨va, vc, hv, _, hlc⟩ := hown.is
    refine wpList_plain hgd fun _ hK => ?_
    have e : (execOp a.eval o).run Try.prog wr = .ok (.value v) wr := by
      rw [hv] at hs ⊢
      unfold execOp
      simp [ho, resolve, invoke, builtin, hs, hx, run_cat0 _ _ _ hlc, Result.andThen]
    unfold Oper.wp
    rw [e, Oper.upon_value]
    exact hK _ _ (h _ _ (by rw [List.append_nil]; exact hown) (World.grownBy.refl _ _))
  · exact wp_catE (T := secT) hgd s x ho hown hs hx hI h0 hl hb fun v' w' h1 h2 _ => h v' w' h1 h2
/-- The struct is stored whole, in a region that draws its order. -/
theorem does_stS {o : Oper} {ρ : Operand → Value} {w : World} {R : Value → World → Prop} {b off : Nat} (s : Sec) (h : w.there b off 8) {x y : Operand} (ho : o.op = .store 29 x y) (hx : ρ x = .pointer (some ⟨b, off, none⟩)) (hy : ρ y = secV s)
    (k : R undef (w.setCells b off (secC s))) : Does Try.prog o ρ w R := by
  unfold Does execOp
  simp only [ho, hx, hy, Sem.run_bind, stS s h, Result.andThen_ok]
  exact k
section
variable {l : List UInt8}
/-- All of these are sections of the text l. -/
def Of (l : List UInt8) (L : List Sec) : Prop := ∀ j, j < L.length → ∃ m, m ≤ lastN l ∧ L.getD j zs = mk 9 8 7 l m
theorem of_chk {L : List Sec} (h : Of l L) (hc : chk (base 9 8 7 l) = 0) : ∀ j, j < L.length → chk (L.getD j zs) = 0 := fun j hj => by
  obtain ⟨m, hm, e⟩ := h j hj
  rw [e, chk_mk hm, hc]
theorem of_kin {L : List Sec} (h : Of l L) (_h0 : L.length ≠ 0) : ∀ j, j < L.length → kin (L.getD 0 zs) (L.getD j zs) = true := fun j hj => by
  obtain ⟨m, _, e⟩ := h j hj
  obtain ⟨m0, _, e0⟩ := h 0 (by omega)
  rw [e, e0]; exact kin_iff.2 ⟨rfl, rfl, rfl, rfl, rfl, rfl⟩
theorem of_len {L : List Sec} (h : Of l L) (hc : chk (base 9 8 7 l) = 0) (h0 : L.length ≠ 0) (hn : L.length ≠ lastN l + 1) : jn L = ([], 22) :=
  jn_len h0 (of_chk h hc) (of_kin h h0) (by obtain ⟨m, _, e⟩ := h 0 (by omega); rw [e]; show (L.length : Int) ≠ (lastN l : Int) + 1; omega)
theorem of_ord {L : List Sec} (h : Of l L) (hc : chk (base 9 8 7 l) = 0) {j m : Nat} (hj : j < L.length) (e : L.getD j zs = mk 9 8 7 l m) (hne : m ≠ j) : jn L = ([], 22) :=
  jn_ord hj (of_chk h hc) (of_kin h (by omega)) (by rw [e]; show (m : Int) ≠ (j : Int); omega)
theorem getD_set {L : List Sec} {i : Nat} (hi : i < L.length) (x : Sec) (j : Nat) : (L.set i x).getD j zs = if j = i then x else L.getD j zs := by
  rw [List.getD_eq_getElem?_getD, List.getD_eq_getElem?_getD, List.getElem?_set]
  by_cases h : i = j
  · subst h; simp [hi]
  · rw [if_neg h, if_neg fun e => h e.symm]
theorem secs_of : Of l (secs 9 8 7 l) := fun j hj => by
  rw [secs_length] at hj
  exact ⟨j, by omega, secs_get _ _ _ _ hj⟩
/-- Two that have changed their places. -/
def swp (L : List Sec) (i k : Nat) : List Sec := (L.set i (L.getD k zs)).set k (L.getD i zs)
theorem swp_length (L : List Sec) (i k : Nat) : (swp L i k).length = L.length := by unfold swp; rw [List.length_set, List.length_set]
theorem swp_get {L : List Sec} {i k : Nat} (hi : i < L.length) (hk : k < L.length) (j : Nat) : (swp L i k).getD j zs = if j = k then L.getD i zs else if j = i then L.getD k zs else L.getD j zs := by
  unfold swp; rw [getD_set (by rw [List.length_set]; exact hk), getD_set hi]
theorem swp_jn {i k : Nat} (hc : chk (base 9 8 7 l) = 0) (hi : i < lastN l + 1) (hk : k < lastN l + 1) : jn (swp (secs 9 8 7 l) i k) = if i = k then (l, 0) else ([], 22) := by
  have hl := secs_length 9 8 7 l
  by_cases h : i = k
  · subst h
    rw [if_pos rfl]
    have e : swp (secs 9 8 7 l) i i = secs 9 8 7 l := by
      unfold swp
      rw [List.set_set, List.getD_eq_getElem?_getD, List.getElem?_eq_getElem (by omega)]
      show (secs 9 8 7 l).set i (secs 9 8 7 l)[i] = _
      rw [List.set_getElem_self]
    rw [e, jn_secs hc]
  · rw [if_neg h]
    refine of_ord (l := l) (fun j hj => ?_) hc (j := k) (m := i) (by rw [swp_length]; omega) (by rw [swp_get (by omega) (by omega), if_pos rfl, secs_get _ _ _ _ hi]) h
    rw [swp_length] at hj
    rw [swp_get (by omega) (by omega)]
    by_cases h1 : j = k
    · rw [if_pos h1]; exact ⟨i, by omega, secs_get _ _ _ _ hi⟩
    · rw [if_neg h1]
      by_cases h2 : j = i
      · rw [if_pos h2]; exact ⟨k, by omega, secs_get _ _ _ _ hk⟩
      · rw [if_neg h2]; exact secs_of j hj
/-- One is missing. -/
theorem less_jn {i : Nat} (hc : chk (base 9 8 7 l) = 0) (h1 : 1 ≤ lastN l) (hi : i < lastN l + 1) : jn ((secs 9 8 7 l).take i ++ (secs 9 8 7 l).drop (i + 1)) = ([], 22) := by
  have hl := secs_length 9 8 7 l
  have hln : ((secs 9 8 7 l).take i ++ (secs 9 8 7 l).drop (i + 1)).length = lastN l := by rw [List.length_append, List.length_take, List.length_drop]; omega
  refine of_len (l := l) (fun j hj => ?_) hc (by omega) (by omega)
  rw [hln] at hj
  have ht : ((secs 9 8 7 l).take i).length = i := by rw [List.length_take]; omega
  by_cases h : j < i
  · refine ⟨j, by omega, ?_⟩
    rw [← secs_get 9 8 7 l (n := j) (by omega), List.getD_eq_getElem?_getD, List.getElem?_append_left (by omega), List.getElem?_take_of_lt h, List.getD_eq_getElem?_getD]
  · refine ⟨j + 1, by omega, ?_⟩
    rw [← secs_get 9 8 7 l (n := j + 1) (by omega), List.getD_eq_getElem?_getD, List.getElem?_append_right (by omega), ht, List.getElem?_drop, List.getD_eq_getElem?_getD]
    congr 2; omega
/-- One is another one's. -/
theorem other_jn {i : Nat} (hc : chk (base 9 8 7 l) = 0) (h1 : 1 ≤ lastN l) (hi : i < lastN l + 1) : jn ((secs 9 8 7 l).set i { mk 9 8 7 l i with ex := 9 }) = ([], 14) := by
  have hl := secs_length 9 8 7 l
  have hck : ∀ j, j < ((secs 9 8 7 l).set i { mk 9 8 7 l i with ex := 9 }).length → chk (((secs 9 8 7 l).set i { mk 9 8 7 l i with ex := 9 }).getD j zs) = 0 := fun j hj => by
    rw [List.length_set] at hj
    rw [getD_set (by omega)]
    by_cases h : j = i
    · rw [if_pos h]
      have hm := chk_fit ((chk_mk (n := i) (by omega)).trans hc)
      obtain ⟨⟨a1, a2, _, _, a5, a6, a7, a8, a9, a10⟩, a11⟩ := hm
      exact chk_ok ⟨a1, a2, by show (0 : Int) ≤ 9; decide, by show (9 : Int) ≤ 65535; decide, a5, a6, a7, a8, a9, a10⟩ (by show ¬ 4084 < (st (pc l i)).size; rw [st_size, pc_length]; omega)
    · rw [if_neg h, secs_get _ _ _ _ (by omega), chk_mk (by omega), hc]
  by_cases h0 : i = 0
  · subst h0
    refine jn_kin (k := 1) (by rw [List.length_set]; omega) hck ?_
    rw [getD_set (by omega), getD_set (by omega), if_pos rfl, if_neg (by omega), secs_get _ _ _ _ (by omega)]
    rfl
  · refine jn_kin (k := i) (by rw [List.length_set]; omega) hck ?_
    rw [getD_set (by omega), getD_set (by omega), if_neg (by omega), if_pos rfl, secs_get _ _ _ _ (by omega)]
    rfl
end
end Go.Proofs.Ytofnokikjfmfgaa
