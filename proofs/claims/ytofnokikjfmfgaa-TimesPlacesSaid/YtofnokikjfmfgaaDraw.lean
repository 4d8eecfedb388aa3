/-
  A region that draws its order of evaluation, by one look at each of its operations: where each operation's value is the same in whatever order, and what it finds of the world follows from which others have been carried out, the region ends as in the order of the text. In a function's own text, and in the round of a range over a function. Of no program.
-/
import Derived.Orders
import Derived.OrdersIn
import Derived.CallsIn
import Derived.RangeFuncCalls
import Derived.Tactics
import Derived.StillTail
namespace Go.Proofs.Ytofnokikjfmfgaa
open Go
set_option maxRecDepth 100000

/-- What an operation does: its value and the world behind it; it does not panic. -/
def Does (P : Program) (o : Oper) (ρ : Operand → Value) (w : World) (R : Value → World → Prop) : Prop :=
  match (execOp ρ o).run P w with
  | .ok (.value v) w' => R v w'
  | .ok .skip w' => R undef w'
  | .ok (.enter f args) w' => Calls P f args w' fun e w'' => ∃ v, e = .returned v ∧ R v w''
  | _ => False
theorem Does.imp {P : Program} {o : Oper} {ρ : Operand → Value} {w : World} {R R' : Value → World → Prop} (h : Does P o ρ w R) (hr : ∀ v w', R v w' → R' v w') : Does P o ρ w R' := by
  unfold Does at *
  generalize (execOp ρ o).run P w = r at *
  cases r with
  | ok x w' => cases x <;> first | exact h.elim | exact hr _ _ h | exact Calls.mono h (fun e w'' k => by obtain ⟨v, he, k⟩ := k; exact ⟨v, he, hr v w'' k⟩)
  | halt x w' => exact h.elim
theorem Does.congr {P : Program} {o : Oper} {ρ ρ' : Operand → Value} {w : World} {R : Value → World → Prop} (e : execOp ρ o = execOp ρ' o) (h : Does P o ρ w R) : Does P o ρ' w R := by
  unfold Does at *; rw [← e]; exact h
theorem Does.wp {P : Program} {o : Oper} {a : Act} {w : World} {K : Act → World → Prop} {Q : Exit → Act → World → Prop} (h : Does P o a.eval w (fun v w' => K (a.put o.dst v) w')) : o.wp P a w K Q := by
  unfold Oper.wp
  unfold Does at h
  generalize (execOp a.eval o).run P w = r at *
  cases r with
  | ok x w' => cases x <;> first | exact h.elim | exact h | exact Calls.mono h (fun e w'' k => by obtain ⟨v, he, k⟩ := k; subst he; exact k)
  | halt x w' => exact h.elim
theorem Does.wpIn {P : Program} {o : Oper} {a : Act} {w : World} {K : Act → World → Prop} {Q : Exit → Act → World → Prop} {l n : Nat} (hd : ∀ c, o.op ≠ .defer c) (h : Does P o a.eval w (fun v w' => K (a.put o.dst v) w')) : o.wpIn (Fence.wide.inRound l) n P a w K Q := by
  unfold Oper.wpIn
  refine ⟨fun _ _ => trivial, ?_⟩
  rw [Oper.semAt_eq _ _ _ hd]
  unfold Does at h
  generalize (execOp a.eval o).run P w = r at *
  cases r with
  | ok x w' =>
    cases x <;> first
      | exact h.elim
      | exact h
      | exact ⟨(fun k => by cases k), CallsIn.inRound _ (callsIn_wide.2 (Calls.mono h (fun e w'' k => by obtain ⟨v, he, k⟩ := k; subst he; exact k)))⟩
  | halt x w' => exact h.elim
def dstOf (ops : Array Oper) (i : Nat) : Option Tmp := (ops[i]?).bind (·.dst)
def waits (ops : Array Oper) (i j : Nat) : Bool := match ops[i]? with | some o => o.after.any (fun e => Region.binds .any e && e.on == j) | none => false
def slotsOf (o : Oper) : List Tmp := o.op.operands.toList.filterMap fun | .tmp t => some t | _ => none
def plainOp (o : Oper) : Bool := match o.op with | .select _ _ => false | .defer _ => false | _ => true
/-- Each operation is plain, writes a slot of its own, and reads what it waits for, or what nobody writes. -/
def okB (ops : Array Oper) (N : Nat) : Bool :=
  (List.range ops.size).all fun i => match ops[i]? with
   | none => true
   | some o => plainOp o && (match o.guard with | some (g, _) => waits ops i g && (dstOf ops g).isSome | none => true) && (match o.dst with | some d => decide (d < N) | none => true) && o.after.all (fun e => !Region.binds .any e || decide (e.on < i)) &&
      (List.range ops.size).all fun j =>
        (decide (i = j) || (match o.dst with | none => true | some d => dstOf ops j != some d)) &&
        ((slotsOf o).all fun s => dstOf ops j != some s || (decide (j < i) && waits ops i j))
structure Ok (ops : Array Oper) (N : Nat) : Prop where
  guard : ∀ (i : Nat) (o : Oper), ops[i]? = some o → ∀ g b, o.guard = some (g, b) → waits ops i g = true ∧ ∃ d, dstOf ops g = some d
  sel : ∀ (i : Nat) (o : Oper), ops[i]? = some o → ∀ cs b, o.op ≠ .select cs b
  dfr : ∀ (i : Nat) (o : Oper), ops[i]? = some o → ∀ c, o.op ≠ .defer c
  dst : ∀ (i : Nat) (d : Tmp), dstOf ops i = some d → d < N
  back : ∀ (i : Nat) (o : Oper), ops[i]? = some o → ∀ e ∈ o.after, Region.binds .any e = true → e.on < i
  one : ∀ (i j : Nat) (d : Tmp), dstOf ops i = some d → dstOf ops j = some d → i = j
  reads : ∀ (i : Nat) (o : Oper), ops[i]? = some o → ∀ s ∈ slotsOf o, ∀ j, dstOf ops j = some s → j < i ∧ waits ops i j = true
theorem okB_ok {ops : Array Oper} {N : Nat} (h : okB ops N = true) : Ok ops N := by
  have get : ∀ i o, ops[i]? = some o → (plainOp o = true ∧ ∀ g b, o.guard = some (g, b) → waits ops i g = true ∧ ∃ d, dstOf ops g = some d) ∧ (∀ d, o.dst = some d → d < N) ∧ (∀ e ∈ o.after, Region.binds .any e = true → e.on < i) ∧
      ∀ j, j < ops.size → (i = j ∨ ∀ d, o.dst = some d → dstOf ops j ≠ some d) ∧ ∀ s ∈ slotsOf o, dstOf ops j = some s → j < i ∧ waits ops i j = true := by
    intro i o ho
    have hi : i < ops.size := (Array.getElem?_eq_some_iff.1 ho).1
    have h1 := List.all_eq_true.1 h i (List.mem_range.2 hi)
    simp only [ho, Bool.and_eq_true] at h1
    obtain ⟨⟨⟨⟨a1, a0⟩, a2⟩, a3⟩, a4⟩ := h1
    refine ⟨⟨a1, fun g b hg => by rw [hg] at a0; simp only [Bool.and_eq_true] at a0; exact ⟨a0.1, Option.isSome_iff_exists.1 a0.2⟩⟩, fun d hd => by simpa [hd] using a2, fun e he hb => by have := Array.all_eq_true'.1 a3 e he; simpa [hb] using this, fun j hj => ?_⟩
    have h2 := List.all_eq_true.1 a4 j (List.mem_range.2 hj)
    simp only [Bool.and_eq_true, Bool.or_eq_true, decide_eq_true_eq] at h2
    refine ⟨h2.1.imp id fun k d hd => by simpa [hd] using k, fun s hs he => ?_⟩
    have h3 := List.all_eq_true.1 h2.2 s hs
    simpa [he] using h3
  have some_of : ∀ i d, dstOf ops i = some d → ∃ o, ops[i]? = some o ∧ o.dst = some d ∧ i < ops.size := fun i d hd => by
    unfold dstOf at hd
    obtain ⟨o, ho, hd⟩ := Option.bind_eq_some_iff.1 hd
    exact ⟨o, ho, hd, (Array.getElem?_eq_some_iff.1 ho).1⟩
  refine ⟨fun i o ho => ?_, fun i o ho cs b e => ?_, fun i o ho c e => ?_, fun i d hd => ?_, fun i o ho => (get i o ho).2.2.1, fun i j d hi hj => ?_, fun i o ho s hs j hj => ?_⟩
  · exact (get i o ho).1.2
  · have := (get i o ho).1.1; simp [plainOp, e] at this
  · have := (get i o ho).1.1; simp [plainOp, e] at this
  · obtain ⟨o, ho, hd, _⟩ := some_of i d hd; exact (get i o ho).2.1 d hd
  · obtain ⟨o, ho, hd, _⟩ := some_of i d hi
    obtain ⟨_, _, _, hjs⟩ := some_of j d hj
    exact (((get i o ho).2.2.2 j hjs).1).elim id fun k => absurd hj (k d hd)
  · obtain ⟨_, _, _, hjs⟩ := some_of j s hj
    exact ((get i o ho).2.2.2 j hjs).2 s hs hj

/-- The act behind the first i operations, in the order of the text; vs: their values. -/
def seqA (ops : Array Oper) (vs : List Value) (base : Act) : Nat → Act
  | 0 => base
  | i + 1 => (seqA ops vs base i).put (dstOf ops i) (vs.getD i undef)
/-- The act behind those operations that L tells. -/
structure St (ops : Array Oper) (vs : List Value) (base : Act) (L : Nat → Bool) (a : Act) : Prop where
  defers : a.defers = base.defers
  size : a.tmps.size = base.tmps.size
  put : ∀ j d, L j = true → dstOf ops j = some d → a.tmps[d]? = some (vs.getD j undef)
  rest : ∀ s, (∀ j, L j = true → dstOf ops j ≠ some s) → a.tmps[s]? = base.tmps[s]?
section
variable {P : Program} {ops : Array Oper} {vs : List Value} {base : Act}
theorem St.step {L L' : Nat → Bool} {a : Act} {i : Nat} {v : Value} (ok : Ok ops base.tmps.size) (h : St ops vs base L a) (hL : ∀ j, L' j = true ↔ (L j = true ∨ j = i)) (hv : ∀ d, dstOf ops i = some d → v = vs.getD i undef) :
    St ops vs base L' (a.put (dstOf ops i) v) := by
  cases hd : dstOf ops i with
  | none =>
    refine ⟨h.defers, h.size, fun j d hj hjd => ?_, fun s hs => h.rest s fun j hj => hs j ((hL j).2 (.inl hj))⟩
    rcases (hL j).1 hj with hj | rfl
    · exact h.put j d hj hjd
    · rw [hd] at hjd; cases hjd
  | some e =>
    have he := ok.dst i e hd
    refine ⟨h.defers, by simp [Act.put, h.size], fun j d hj hjd => ?_, fun s hs => ?_⟩
    · by_cases hji : j = i
      · subst hji
        rw [hd] at hjd; cases hjd
        rw [← hv e hd]
        simp [Act.put, h.size, he]
      · have hne : e ≠ d := fun x => hji (ok.one j i d hjd (by rw [hd, x]))
        simp only [Act.put]
        rw [Array.getElem?_setIfInBounds_ne hne]
        exact h.put j d (((hL j).1 hj).resolve_right hji) hjd
    · have hne : e ≠ s := fun x => hs i ((hL i).2 (.inr rfl)) (by rw [hd, x])
      simp only [Act.put]
      rw [Array.getElem?_setIfInBounds_ne hne]
      exact h.rest s fun j hj => hs j ((hL j).2 (.inl hj))
theorem seq_st (ok : Ok ops base.tmps.size) : ∀ i, St ops vs base (fun j => decide (j < i)) (seqA ops vs base i)
  | 0 => ⟨rfl, rfl, (fun j d hj => by simp at hj), fun _ _ => rfl⟩
  | i + 1 => St.step ok (seq_st ok i) (fun j => by simp; omega) (fun _ _ => rfl)
theorem St.one {a b : Act} {L : Nat → Bool} (ha : St ops vs base L a) (hb : St ops vs base L b) : a = b := by
  obtain ⟨ta, da⟩ := a
  obtain ⟨tb, db⟩ := b
  have hd : da = db := ha.defers.trans hb.defers.symm
  have ht : ta = tb := by
    refine Array.ext_getElem? fun s => ?_
    by_cases hex : ∃ j, L j = true ∧ dstOf ops j = some s
    · obtain ⟨j, hj, hjs⟩ := hex
      exact (ha.put j s hj hjs).trans (hb.put j s hj hjs).symm
    · have hn : ∀ j, L j = true → dstOf ops j ≠ some s := fun j hj e => hex ⟨j, hj, e⟩
      exact (ha.rest s hn).trans (hb.rest s hn).symm
  rw [hd, ht]
/-- What an operation reads, where all has come for which it waits, is what stands there at the end. -/
theorem St.reads {L : Nat → Bool} {a : Act} {i n : Nat} {o : Oper} (ok : Ok ops base.tmps.size) (h : St ops vs base L a) (ho : ops[i]? = some o) (hin : i ≤ n) (hd : ∀ j, waits ops i j = true → L j = true) :
    ∀ x ∈ o.op.operands, a.eval x = (seqA ops vs base n).eval x := by
  intro x hx
  cases x with
  | tmp s =>
    have hs : s ∈ slotsOf o := List.mem_filterMap.2 ⟨.tmp s, by simpa using hx, rfl⟩
    have k := seq_st (vs := vs) ok n
    have e : a.tmps[s]? = (seqA ops vs base n).tmps[s]? := by
      by_cases hex : ∃ j, dstOf ops j = some s
      · obtain ⟨j, hj⟩ := hex
        obtain ⟨hlt, hw⟩ := ok.reads i o ho s hs j hj
        rw [h.put j s (hd j hw) hj, k.put j s (by simp; omega) hj]
      · rw [h.rest s (fun j _ e => hex ⟨j, e⟩), k.rest s (fun j _ e => hex ⟨j, e⟩)]
    simp only [Act.eval, Array.getD_eq_getD_getElem?, e]
  | const _ => rfl
  | global _ => rfl
  | func _ => rfl
def Shut (ops : Array Oper) (L : Nat → Bool) : Prop := ∀ i j, L i = true → waits ops i j = true → L j = true
def lis (listed : Array Bool) (j : Nat) : Bool := listed.getD j false
theorem lis_set {listed : Array Bool} {i : Nat} (hi : i < listed.size) (j : Nat) : lis (listed.setIfInBounds i true) j = true ↔ (lis listed j = true ∨ j = i) := by
  unfold lis
  by_cases h : i = j
  · subst h; simp [hi]
  · simp only [Array.getD_eq_getD_getElem?, Array.getElem?_setIfInBounds_ne h]
    exact ⟨.inl, fun k => k.resolve_right fun e => h e.symm⟩
theorem ready_waits {i : Nat} {listed : Array Bool} (h : i ∈ Region.ready .any ops listed) : ∃ o, ops[i]? = some o ∧ lis listed i = false ∧ ∀ j, waits ops i j = true → lis listed j = true := by
  obtain ⟨h0, o, ho, hall⟩ := mem_ready.1 h
  refine ⟨o, ho, ?_, fun j hj => ?_⟩
  · unfold lis
    rcases Nat.lt_or_ge i listed.size with hl | hl
    · simp [hl] at h0 ⊢; exact h0
    · simp [hl]
  · unfold waits at hj
    rw [ho] at hj
    obtain ⟨e, he, hb⟩ := Array.any_eq_true'.1 hj
    simp only [Bool.and_eq_true, beq_iff_eq] at hb
    rw [← hb.2]; exact hall e he hb.1
theorem ready_none (ok : Ok ops base.tmps.size) {listed : Array Bool} (hs : listed.size = ops.size) (h : Region.ready .any ops listed = []) : ∀ i, i < ops.size → lis listed i = true := by
  intro i
  induction i using Nat.strongRecOn with
  | _ i ih =>
    intro hi
    rcases Bool.eq_false_or_eq_true (lis listed i) with e | e
    · exact e
    · exfalso
      have : i ∈ Region.ready .any ops listed := mem_ready.2 ⟨by unfold lis at e; simp [hs, hi] at e ⊢; exact e, ops[i], Array.getElem?_eq_getElem hi, fun x hx hxb => ih x.on (ok.back i _ (Array.getElem?_eq_getElem hi) x hx hxb) (by have := ok.back i _ (Array.getElem?_eq_getElem hi) x hx hxb; omega)⟩
      rw [h] at this; cases this
def left (ops : Array Oper) (listed : Array Bool) : Nat := (List.range ops.size).countP (fun j => !lis listed j)
theorem countP_less {p q : Nat → Bool} {i : Nat} : ∀ {l : List Nat}, i ∈ l → (∀ j, p j = true → q j = true) → q i = true → p i = false → l.countP p < l.countP q
  | [], h, _, _, _ => by cases h
  | x :: l, h, hpq, hq, hp => by
    have hle : l.countP p ≤ l.countP q := List.countP_mono_left fun j _ => hpq j
    rw [List.countP_cons, List.countP_cons]
    by_cases e : x = i
    · subst e; simp [hq, hp]; omega
    · have := countP_less ((List.mem_cons.1 h).resolve_left fun k => e k.symm) hpq hq hp
      have : (if p x = true then 1 else 0) ≤ (if q x = true then 1 else 0) := by
        by_cases hx : p x = true
        · simp [hx, hpq x hx]
        · simp [hx]
      omega
theorem left_set {listed : Array Bool} {i : Nat} (hi : i < listed.size) (hs : i < ops.size) (h : lis listed i = false) : left ops (listed.setIfInBounds i true) < left ops listed := by
  refine countP_less (i := i) (List.mem_range.2 hs) (fun j hj => ?_) (by simp [h]) ?_
  · rcases Bool.eq_false_or_eq_true (lis listed j) with e | e
    · have := (lis_set hi j).2 (.inl e); simp [this] at hj
    · simp [e]
  · have := (lis_set hi i).2 (.inr rfl); simp [this]
def boolOf : Value → Option Bool
  | .bool b => some b
  | _ => none
/-- Whether an operation is carried out, by the values. -/
def wantG (vs : List Value) (o : Oper) : Bool := match o.guard with | none => true | some (g, b) => boolOf (vs.getD g undef) == some b
/-- What is to be shown of an operation. -/
def Look (P : Program) (ops : Array Oper) (vs : List Value) (fin : Act) (WR : (Nat → Bool) → World → Prop) (i : Nat) (o : Oper) : Prop :=
  match o.guard with
  | none => ∀ L w, L i = false → (∀ j, waits ops i j = true → L j = true) → Shut ops L → WR L w →
      Does P o fin.eval w fun v w' => (o.dst ≠ none → v = vs.getD i undef) ∧ ∀ L', (∀ j, L' j = true ↔ (L j = true ∨ j = i)) → WR L' w'
  | some (g, b) => ∀ L w, L i = false → (∀ j, waits ops i j = true → L j = true) → Shut ops L → WR L w →
      if boolOf (vs.getD g undef) == some b then Does P o fin.eval w fun v w' => (o.dst ≠ none → v = vs.getD i undef) ∧ ∀ L', (∀ j, L' j = true ↔ (L j = true ∨ j = i)) → WR L' w'
      else (o.dst ≠ none → undef = vs.getD i undef) ∧ ∀ L', (∀ j, L' j = true ↔ (L j = true ∨ j = i)) → WR L' w
theorem Look.at {fin : Act} {WR : (Nat → Bool) → World → Prop} {i : Nat} {o : Oper} (h : Look P ops vs fin WR i o) {L : Nat → Bool} {w : World} (h0 : L i = false) (h1 : ∀ j, waits ops i j = true → L j = true) (h2 : Shut ops L) (h3 : WR L w) :
    if wantG vs o then Does P o fin.eval w fun v w' => (o.dst ≠ none → v = vs.getD i undef) ∧ ∀ L', (∀ j, L' j = true ↔ (L j = true ∨ j = i)) → WR L' w'
    else (o.dst ≠ none → undef = vs.getD i undef) ∧ ∀ L', (∀ j, L' j = true ↔ (L j = true ∨ j = i)) → WR L' w := by
  unfold Look at h
  unfold wantG
  cases hg : o.guard with
  | none => rw [hg] at h; exact h L w h0 h1 h2 h3
  | some gb => obtain ⟨g, b⟩ := gb; rw [hg] at h; exact h L w h0 h1 h2 h3
theorem St.wanted {L : Nat → Bool} {a : Act} {i : Nat} {o : Oper} {all : Array Oper} (ok : Ok ops base.tmps.size) (h : St ops vs base L a) (ho : ops[i]? = some o) (hd : ∀ j, waits ops i j = true → L j = true) (hall : ∀ g d, dstOf ops g = some d → dstOf all g = some d) :
    Region.wanted o (yielded all a.tmps) = wantG vs o := by
  unfold Region.wanted wantG
  cases hg : o.guard with
  | none => rfl
  | some gb =>
    obtain ⟨g, b⟩ := gb
    obtain ⟨hw, d, hdd⟩ := ok.guard i o ho g b hg
    have hp := h.put g d (hd g hw) hdd
    have h2 : (all[g]?).bind (·.dst) = some d := hall g d hdd
    simp only [yielded, h2, Option.bind_some, hp]
    cases vs.getD g undef <;> rfl
/-- The common part: 'any' stands for the calculus. -/
theorem draw_core {Q : Exit → Act → World → Prop} (any : Nat → Array Bool → Act → World → Prop) (op : Nat → (Act → World → Prop) → Act → World → Prop)
    (h0 : ∀ listed a w, Region.ready .any ops listed = [] → Q .normal a w → any 0 listed a w)
    (hs : ∀ fuel listed a w, (Region.ready .any ops listed = [] → Q .normal a w) → (∀ i ∈ Region.ready .any ops listed, op i (any fuel (listed.setIfInBounds i true)) a w) → any (fuel + 1) listed a w)
    (hop : ∀ i o a w K, ops[i]? = some o → (if Region.wanted o (yielded ops a.tmps) then Does P o a.eval w (fun v w' => K (a.put o.dst v) w') else K (a.put o.dst undef) w) → op i K a w)
    (ok : Ok ops base.tmps.size) (WR : (Nat → Bool) → World → Prop)
    (each : ∀ i o, ops[i]? = some o → Look P ops vs (seqA ops vs base ops.size) WR i o)
    (hend : ∀ L w, (∀ j, j < ops.size → L j = true) → WR L w → Q .normal (seqA ops vs base ops.size) w) :
    ∀ fuel listed a w, listed.size = ops.size → left ops listed ≤ fuel → St ops vs base (lis listed) a → Shut ops (lis listed) → WR (lis listed) w → any fuel listed a w := by
  have fin : ∀ listed a w, listed.size = ops.size → St ops vs base (lis listed) a → WR (lis listed) w → Region.ready .any ops listed = [] → Q .normal a w := by
    intro listed a w hsz hst hw hr
    have hall := ready_none ok hsz hr
    have e : a = seqA ops vs base ops.size := by
      refine hst.one ⟨(seq_st (vs := vs) ok ops.size).defers, (seq_st (vs := vs) ok ops.size).size, fun j d _ hjd => ?_, fun s hn => ?_⟩
      · have hj : j < ops.size := by
          unfold dstOf at hjd
          obtain ⟨o, ho, _⟩ := Option.bind_eq_some_iff.1 hjd
          exact (Array.getElem?_eq_some_iff.1 ho).1
        exact (seq_st ok ops.size).put j d (by simpa using hj) hjd
      · exact (seq_st (vs := vs) ok ops.size).rest s fun j hj => hn j (hall j (by simpa using hj))
    rw [e]; exact hend _ w hall hw
  intro fuel
  induction fuel with
  | zero =>
    intro listed a w hsz hl hst hsh hw
    have hr : Region.ready .any ops listed = [] := by
      refine List.eq_nil_iff_forall_not_mem.2 fun i hi => ?_
      obtain ⟨o, ho, hf, _⟩ := ready_waits hi
      have : 0 < (List.range ops.size).countP (fun j => !lis listed j) := List.countP_pos_iff.2 ⟨i, List.mem_range.2 (Array.getElem?_eq_some_iff.1 ho).1, (by simp [hf])⟩
      unfold left at hl; omega
    exact h0 _ _ _ hr (fin _ _ _ hsz hst hw hr)
  | succ fuel ih =>
    intro listed a w hsz hl hst hsh hw
    refine hs _ _ _ _ (fin _ _ _ hsz hst hw) fun i hi => ?_
    obtain ⟨o, ho, hf, hwt⟩ := ready_waits hi
    have hio : i < ops.size := (Array.getElem?_eq_some_iff.1 ho).1
    have hil : i < listed.size := by omega
    refine hop i o a w _ ho ?_
    have hd := (each i o ho).at hf hwt hsh hw
    have hex := execOp_congr o (ok.sel i o ho) (hst.reads ok ho (Nat.le_of_lt hio) hwt)
    have next : ∀ v w', ((o.dst ≠ none → v = vs.getD i undef) ∧ ∀ L', (∀ j, L' j = true ↔ (lis listed j = true ∨ j = i)) → WR L' w') → any fuel (listed.setIfInBounds i true) (a.put o.dst v) w' := by
      intro v w' ⟨hv, hW⟩
      have hod : dstOf ops i = o.dst := by simp [dstOf, ho]
      refine ih _ _ _ (by simp [hsz]) (by have := left_set hil hio hf; omega) ?_ ?_ (hW _ (lis_set hil))
      · rw [← hod]
        exact hst.step ok (lis_set hil) fun d hd' => hv (by rw [← hod, hd']; simp)
      · intro x y hx hxy
        rcases (lis_set hil x).1 hx with hx | rfl
        · exact (lis_set hil y).2 (.inl (hsh x y hx hxy))
        · exact (lis_set hil y).2 (.inl (hwt y hxy))
    rw [hst.wanted ok ho hwt (fun _ _ h => h)]
    by_cases hwg : wantG vs o = true
    · rw [if_pos hwg] at hd ⊢
      exact (Does.congr hex.symm hd).imp next
    · rw [if_neg hwg] at hd ⊢
      exact next _ _ hd
theorem lis_none (n j : Nat) : lis (Array.replicate n false) j = false := by
  unfold lis
  rcases Nat.lt_or_ge j n with h | h <;> simp [h]
theorem St.start' {m : Nat} : St ops vs base (lis (Array.replicate m false)) base :=
  ⟨rfl, rfl, (fun j d hj => by rw [lis_none] at hj; cases hj), fun _ _ => rfl⟩
theorem St.start : St ops vs base (lis (Array.replicate ops.size false)) base :=
  ⟨rfl, rfl, (fun j d hj => by rw [lis_none] at hj; cases hj), fun _ _ => rfl⟩
theorem left_le (listed : Array Bool) : left ops listed ≤ ops.size := by
  have := List.countP_le_length (p := fun j => !lis listed j) (l := List.range ops.size)
  simpa [left] using this
/-- Each operation of a list, in turn. -/
def Each (p : Nat → Oper → Prop) : Nat → List Oper → Prop
  | _, [] => True
  | i, o :: l => p i o ∧ Each p (i + 1) l
theorem Each.at {p : Nat → Oper → Prop} : ∀ {l : List Oper} {i j : Nat} {o : Oper}, Each p i l → l[j]? = some o → p (i + j) o
  | [], _, _, _, _, h => by simp at h
  | x :: l, i, 0, o, h, k => by simp at k; subst k; exact h.1
  | x :: l, i, j + 1, o, h, k => by
    have := Each.at (j := j) h.2 (by simpa using k)
    rwa [show i + 1 + j = i + (j + 1) by omega] at this
theorem wp_draw {id : Nat} {Q : Exit → Act → World → Prop} {w : World} {l : List Oper} (hm : P.follows .mixedOrders = true) (vs : List Value) (WR : (Nat → Bool) → World → Prop) {N : Nat} (hN : base.tmps.size = N) (hB : okB l.toArray N = true)
    {fin : Act} (hfin : seqA l.toArray vs base l.length = fin) (h0 : WR (fun _ => false) w.drew) (each : Each (Look P l.toArray vs fin WR) 0 l) (hend : ∀ L w, (∀ j, j < l.length → L j = true) → WR L w → Q .normal fin w) :
    (Code.region id l.toArray true).wp P Q base w := by
  subst hfin
  have ok : Ok l.toArray base.tmps.size := by rw [hN]; exact okB_ok hB
  refine wp_region_any hm ?_
  refine draw_core (P := P) (vs := vs) (base := base) (Q := Q) (wpAny P .any l.toArray Q) (wpOp P l.toArray Q) (fun _ _ _ h k => ⟨h, k⟩) (fun _ _ _ _ h k => ⟨h, k⟩) ?_ ok WR
    (fun i o ho => by have := Each.at each (j := i) (o := o) (by simpa using ho); rw [Nat.zero_add] at this; exact this) hend _ _ _ _ (by simp) (left_le _) St.start (fun i j h => by rw [lis_none] at h; cases h) (by
      have : lis (Array.replicate l.toArray.size false) = fun _ => false := funext fun j => lis_none _ j
      rw [this]; exact h0)
  intro i o a w K ho hd
  unfold wpOp
  simp only [ho]
  by_cases hw : Region.wanted o (yielded l.toArray a.tmps) = true
  · rw [if_pos hw] at hd ⊢; exact .inl hd.wp
  · rw [if_neg hw] at hd ⊢; exact hd
theorem wpIn_draw {id n r : Nat} {Q : Exit → Act → World → Prop} {w : World} {l : List Oper} (hm : P.follows .mixedOrders = true) (vs : List Value) (WR : (Nat → Bool) → World → Prop) {N : Nat} (hN : base.tmps.size = N) (hB : okB l.toArray N = true)
    {fin : Act} (hfin : seqA l.toArray vs base l.length = fin) (h0 : WR (fun _ => false) w.drew) (each : Each (Look P l.toArray vs fin WR) 0 l) (hend : ∀ L w, (∀ j, j < l.length → L j = true) → WR L w → Q .normal fin w) :
    (Code.region id l.toArray true).wpIn (Fence.wide.inRound r) n P Q base w := by
  subst hfin
  have ok : Ok l.toArray base.tmps.size := by rw [hN]; exact okB_ok hB
  refine wpIn_region_any hm ?_
  refine draw_core (P := P) (vs := vs) (base := base) (Q := Q) (wpAnyIn (Fence.wide.inRound r) n P .any l.toArray Q) (wpOpIn (Fence.wide.inRound r) n P l.toArray Q) (fun _ _ _ h k => ⟨h, k⟩) (fun _ _ _ _ h k => ⟨h, k⟩) ?_ ok WR
    (fun i o ho => by have := Each.at each (j := i) (o := o) (by simpa using ho); rw [Nat.zero_add] at this; exact this) hend _ _ _ _ (by simp) (left_le _) St.start (fun i j h => by rw [lis_none] at h; cases h) (by
      have : lis (Array.replicate l.toArray.size false) = fun _ => false := funext fun j => lis_none _ j
      rw [this]; exact h0)
  intro i o a w K ho hd
  unfold wpOpIn
  simp only [ho]
  by_cases hw : Region.wanted o (yielded l.toArray a.tmps) = true
  · rw [if_pos hw] at hd ⊢; exact hd.wpIn (ok.dfr i o ho)
  · rw [if_neg hw] at hd ⊢; exact ⟨fun _ _ => trivial, hd⟩
theorem same_at {L L' : Nat → Bool} {i : Nat} (h : ∀ j, L' j = true ↔ (L j = true ∨ j = i)) {j : Nat} (hne : j ≠ i) : L' j = L j := by
  have := h j
  cases e : L' j <;> cases e2 : L j <;> simp_all
theorem true_at {L L' : Nat → Bool} {i : Nat} (h : ∀ j, L' j = true ↔ (L j = true ∨ j = i)) : L' i = true := (h i).2 (.inr rfl)
/-- Who waits has not come before the one for which it waits. -/
theorem Shut.no {ops : Array Oper} {L : Nat → Bool} (h : Shut ops L) {i j : Nat} (hw : waits ops j i = true) (hi : L i = false) : L j = false := by
  cases e : L j
  · rfl
  · rw [h j i e hw] at hi; cases hi
/-- The same but for how often an order was drawn. -/
structure Eqv (w w' : World) : Prop where
  os : w'.os = w.os
  tape : w'.tape = w.tape
  output : w'.output = w.output
  heap : w'.heap = w.heap
theorem Eqv.refl (w : World) : Eqv w w := ⟨rfl, rfl, rfl, rfl⟩
theorem Eqv.trans {a b c : World} (h : Eqv a b) (k : Eqv b c) : Eqv a c := ⟨k.os.trans h.os, k.tape.trans h.tape, k.output.trans h.output, k.heap.trans h.heap⟩
theorem Eqv.symm {a b : World} (h : Eqv a b) : Eqv b a := ⟨h.os.symm, h.tape.symm, h.output.symm, h.heap.symm⟩
theorem Eqv.drew (w : World) : Eqv w w.drew := ⟨rfl, rfl, rfl, rfl⟩
theorem Eqv.cell {w w' : World} (h : Eqv w w') (a : Addr) : w'.cell? a = w.cell? a := World.cell?_of_block (w := w) (by rw [h.heap])
theorem Eqv.frozen {w w' : World} (h : Eqv w w') (a : Addr) : w'.frozen? a = w.frozen? a := World.frozen?_of_block (w := w) (by rw [h.heap])
theorem Eqv.size {w w' : World} (h : Eqv w w') : w'.heap.size = w.heap.size := by rw [h.heap]
theorem Eqv.alloc {w w' : World} (h : Eqv w w') (o : Obj) : Eqv (w.alloc o) (w'.alloc o) := by
  obtain ⟨a, b, c, d⟩ := h
  exact ⟨a, b, c, by show w'.heap.push o = w.heap.push o; rw [d]⟩
theorem Eqv.setCell {w w' : World} (h : Eqv w w') (p : Addr) (v : Value) : Eqv (w.setCell p v) (w'.setCell p v) := by
  obtain ⟨a, b, c, d⟩ := h
  refine ⟨?_, ?_, ?_, ?_⟩ <;> simp only [World.setCell, d] <;> (try split) <;> simp_all
/-- Two writers in turn: what holds ahead of the first, between them, behind the second. -/
def Turn (p q : Nat) (A B C : World → Prop) (L : Nat → Bool) (w : World) : Prop := (L p = false → A w) ∧ (L p = true → L q = false → B w) ∧ (L q = true → C w)
theorem Turn.start {p q : Nat} {A B C : World → Prop} {w : World} (h : A w) : Turn p q A B C (fun _ => false) w := ⟨fun _ => h, (fun k => by cases k), (fun k => by cases k)⟩
theorem Turn.keep {p q i : Nat} {A B C : World → Prop} {L L' : Nat → Bool} {w w' : World} (h : Turn p q A B C L w) (hp : p ≠ i) (hq : q ≠ i) (k : ∀ j, L' j = true ↔ (L j = true ∨ j = i))
    (ha : A w → A w') (hb : B w → B w') (hc : C w → C w') : Turn p q A B C L' w' := by
  have ep := same_at k hp
  have eq := same_at k hq
  exact ⟨fun x => ha (h.1 (ep ▸ x)), fun x y => hb (h.2.1 (ep ▸ x) (eq ▸ y)), fun x => hc (h.2.2 (eq ▸ x))⟩
theorem Turn.same {p q i : Nat} {A B C : World → Prop} {L L' : Nat → Bool} {w : World} (h : Turn p q A B C L w) (hp : p ≠ i) (hq : q ≠ i) (k : ∀ j, L' j = true ↔ (L j = true ∨ j = i)) : Turn p q A B C L' w :=
  h.keep hp hq k id id id
theorem Turn.first {p q : Nat} {A B C : World → Prop} {L L' : Nat → Bool} {w' : World} (hq : L q = false) (hpq : q ≠ p) (k : ∀ j, L' j = true ↔ (L j = true ∨ j = p)) (h : B w') : Turn p q A B C L' w' := by
  have eq := (same_at k hpq).trans hq
  exact ⟨fun x => (by rw [true_at k] at x; cases x), fun _ _ => h, fun x => (by rw [eq] at x; cases x)⟩
theorem Turn.second {p q : Nat} {A B C : World → Prop} {L L' : Nat → Bool} {w' : World} (hp : L p = true) (k : ∀ j, L' j = true ↔ (L j = true ∨ j = q)) (h : C w') : Turn p q A B C L' w' :=
  ⟨fun x => (by rw [(k p).2 (.inl hp)] at x; cases x), fun _ x => (by rw [true_at k] at x; cases x), fun _ => h⟩
/-- One writer: what holds ahead of it, and behind it. -/
def Once (p : Nat) (A B : World → Prop) (L : Nat → Bool) (w : World) : Prop := (L p = false → A w) ∧ (L p = true → B w)
theorem Once.start {p : Nat} {A B : World → Prop} {w : World} (h : A w) : Once p A B (fun _ => false) w := ⟨fun _ => h, (fun k => by cases k)⟩
theorem Once.keep {p i : Nat} {A B : World → Prop} {L L' : Nat → Bool} {w w' : World} (h : Once p A B L w) (hp : p ≠ i) (k : ∀ j, L' j = true ↔ (L j = true ∨ j = i)) (ha : A w → A w') (hb : B w → B w') : Once p A B L' w' := by
  have ep := same_at k hp
  exact ⟨fun x => ha (h.1 (ep ▸ x)), fun x => hb (h.2 (ep ▸ x))⟩
theorem Once.same {p i : Nat} {A B : World → Prop} {L L' : Nat → Bool} {w : World} (h : Once p A B L w) (hp : p ≠ i) (k : ∀ j, L' j = true ↔ (L j = true ∨ j = i)) : Once p A B L' w := h.keep hp k id id
theorem Once.done {p : Nat} {A B : World → Prop} {L L' : Nat → Bool} {w' : World} (k : ∀ j, L' j = true ↔ (L j = true ∨ j = p)) (h : B w') : Once p A B L' w' :=
  ⟨fun x => (by rw [true_at k] at x; cases x), fun _ => h⟩
theorem wpAny_more {md : Region.Mode} {Q : Exit → Act → World → Prop} : ∀ (f : Nat) (listed : Array Bool) (a : Act) (w : World), wpAny P md ops Q f listed a w → wpAny P md ops Q (f + 1) listed a w
  | 0, listed, a, w, h => ⟨fun _ => h.2, fun i hi => by rw [h.1] at hi; cases hi⟩
  | f + 1, listed, a, w, h => ⟨h.1, fun i hi => wpOp_mono (fun a' w' k => wpAny_more f _ a' w' k) (h.2 i hi)⟩
theorem take_get (l : List Oper) {n i : Nat} (hi : i < n) : (l.take n).toArray[i]? = l.toArray[i]? := by simp [hi]
theorem take_waits (l : List Oper) {n i : Nat} (hi : i < n) (j : Nat) : waits (l.take n).toArray i j = waits l.toArray i j := by unfold waits; rw [take_get l hi]
/-- As 'wp_draw', but the last operations, from number n on, which come behind all others and in the order of the text, are walked one by one (an append among them: its value hangs on the world). -/
theorem wp_draw_tail {id : Nat} {Q : Exit → Act → World → Prop} {w : World} {l : List Oper} (n : Nat) (hm : P.follows .mixedOrders = true) (vs : List Value) (WR : (Nat → Bool) → World → Prop) {N : Nat} (hN : base.tmps.size = N) (hB : okB (l.take n).toArray N = true)
    (hT : (decide (n < l.length) && Region.sinkB .any l.toArray n && Region.chainB .any l.toArray n && Region.seqB .any l.toArray (l.length - n) n (List.replicate n true ++ List.replicate (l.length - n) false).toArray) = true)
    {fin : Act} (hfin : seqA (l.take n).toArray vs base n = fin) (h0 : WR (fun _ => false) w.drew) (each : Each (Look P (l.take n).toArray vs fin WR) 0 (l.take n))
    (hend : ∀ L w, (∀ j, j < n → L j = true) → WR L w → wpList P l.toArray Q (l.drop n) fin w) : (Code.region id l.toArray true).wp P Q base w := by
  subst hfin
  simp only [Bool.and_eq_true, decide_eq_true_eq] at hT
  obtain ⟨⟨⟨hn, hs⟩, hc⟩, hseq⟩ := hT
  have ok : Ok (l.take n).toArray base.tmps.size := by rw [hN]; exact okB_ok hB
  have hH : (l.take n).toArray.size = n := by simp; omega
  have hns : n < l.toArray.size := by simpa using hn
  refine wp_region_any hm ?_
  have key : ∀ (f : Nat) (listed : Array Bool) (a : Act) (w : World), listed.size = l.length → (∀ t, n ≤ t → t < l.length → listed.getD t true = false) → left (l.take n).toArray listed ≤ f →
      St (l.take n).toArray vs base (lis listed) a → Shut (l.take n).toArray (lis listed) → WR (lis listed) w → wpAny P .any l.toArray Q (f + (l.length - n)) listed a w := by
    intro f
    induction f with
    | zero =>
      intro listed a w hsz htl hl hst hsh hw
      have hall : ∀ j, j < n → lis listed j = true := fun j hj => by
        rcases Bool.eq_false_or_eq_true (lis listed j) with e | e
        · exact e
        · have : 0 < (List.range (l.take n).toArray.size).countP (fun j => !lis listed j) := List.countP_pos_iff.2 ⟨j, List.mem_range.2 (by omega), (by simp [e])⟩
          unfold left at hl; omega
      have ha : a = seqA (l.take n).toArray vs base n := by
        refine hst.one ⟨(seq_st (vs := vs) ok n).defers, (seq_st (vs := vs) ok n).size, fun j d _ hjd => ?_, fun s hno => ?_⟩
        · have hj : j < n := by
            unfold dstOf at hjd
            obtain ⟨o, ho, _⟩ := Option.bind_eq_some_iff.1 hjd
            have := (Array.getElem?_eq_some_iff.1 ho).1; omega
          exact (seq_st ok n).put j d (by simpa using hj) hjd
        · exact (seq_st (vs := vs) ok n).rest s fun j hj => hno j (hall j (by simpa using hj))
      have hlisted : listed = (List.replicate n true ++ List.replicate (l.length - n) false).toArray := by
        refine Array.ext (by simp; omega) fun i h1 h2 => ?_
        by_cases hi : i < n
        · have := hall i hi
          unfold lis at this
          simp [h1] at this
          simp [this, hi]
        · have := htl i (by omega) (by omega)
          simp [h1] at this
          simp [this, List.getElem_append, hi]
      have hq := wpAny_of_seq (P := P) (md := .any) (ops := l.toArray) (Q' := Q) (l.drop n) n listed a w (fun j => by simp [List.getElem?_drop]) (by rw [List.length_drop, hlisted]; exact hseq) (by rw [ha]; exact hend _ w hall hw)
      rw [List.length_drop] at hq
      rw [Nat.zero_add]; exact hq
    | succ f ih =>
      intro listed a w hsz htl hl hst hsh hw
      by_cases hun : ∃ j, j < n ∧ lis listed j = false
      · obtain ⟨j0, hj0, hj0f⟩ := hun
        have inv : HeadInv .any l.toArray n listed := by
          refine ⟨by simpa using hsz, fun j oj hoj hlj e he hb => ?_, fun t h1 h2 => htl t h1 (by simpa using h2)⟩
          have hjn : j < n := by
            rcases Nat.lt_or_ge j n with h | h
            · exact h
            · have hjs : j < l.length := by have := (Array.getElem?_eq_some_iff.1 hoj).1; simpa using this
              have := htl j h hjs
              rw [getD_both this] at hlj; cases hlj
          refine hsh j e.on hlj ?_
          rw [take_waits l hjn]
          unfold waits; rw [hoj]
          exact Array.any_eq_true'.2 ⟨e, he, by simp [hb]⟩
        have hready : ∀ i ∈ Region.ready .any l.toArray listed, i < n := fun i hi => by
          rcases Nat.lt_or_ge i n with h | h
          · exact h
          · refine absurd hi (tail_waits hs hc hns inv (n - j0) j0 rfl hj0 ?_ i h)
            unfold lis at hj0f; exact getD_in (by omega) hj0f
        have hnonempty : Region.ready .any l.toArray listed ≠ [] := by
          intro he
          have all : ∀ i, i < n → lis listed i = true := by
            intro i
            induction i using Nat.strongRecOn with
            | _ i ihh =>
              intro hi
              rcases Bool.eq_false_or_eq_true (lis listed i) with e | e
              · exact e
              · exfalso
                have hio : i < l.toArray.size := by omega
                have : i ∈ Region.ready .any l.toArray listed := mem_ready.2 ⟨by unfold lis at e; exact getD_in (by rw [hsz]; simpa using hio) e, l.toArray[i], Array.getElem?_eq_getElem hio, fun x hx hxb => by
                  have hb := ok.back i l.toArray[i] (by rw [take_get l hi]; exact Array.getElem?_eq_getElem hio) x hx hxb
                  exact ihh x.on hb (by omega)⟩
                rw [he] at this; cases this
          rw [all j0 hj0] at hj0f; cases hj0f
        rw [show f + 1 + (l.length - n) = (f + (l.length - n)) + 1 by omega]
        refine ⟨fun he => absurd he hnonempty, fun i hi => ?_⟩
        have hin := hready i hi
        obtain ⟨o, ho, hf, hwt⟩ := ready_waits hi
        have hoH : (l.take n).toArray[i]? = some o := by rw [take_get l hin]; exact ho
        have hwtH : ∀ j, waits (l.take n).toArray i j = true → lis listed j = true := fun j hj => hwt j (by rw [← take_waits l hin]; exact hj)
        have hil : i < listed.size := by omega
        have hlook := Each.at each (j := i) (o := o) (by simpa using hoH)
        rw [Nat.zero_add] at hlook
        have hd := hlook.at hf hwtH hsh hw
        have hex := execOp_congr o (ok.sel i o hoH) (hst.reads ok hoH (show i ≤ n by omega) hwtH)
        have next : ∀ v w', ((o.dst ≠ none → v = vs.getD i undef) ∧ ∀ L', (∀ j, L' j = true ↔ (lis listed j = true ∨ j = i)) → WR L' w') → wpAny P .any l.toArray Q (f + (l.length - n)) (listed.setIfInBounds i true) (a.put o.dst v) w' := by
          intro v w' ⟨hv, hW⟩
          have hod : dstOf (l.take n).toArray i = o.dst := by simp only [dstOf, hoH, Option.bind_some]
          refine ih _ _ _ (by simp [hsz]) (fun t h1 h2 => ?_) (by have := left_set (ops := (l.take n).toArray) hil (by omega) hf; omega) ?_ ?_ (hW _ (lis_set hil))
          · rw [getD_set_ne true (by omega)]; exact htl t h1 h2
          · rw [← hod]
            exact hst.step ok (lis_set hil) fun d hd' => hv (by rw [← hod, hd']; simp)
          · intro x y hx hxy
            rcases (lis_set hil x).1 hx with hx | rfl
            · exact (lis_set hil y).2 (.inl (hsh x y hx hxy))
            · exact (lis_set hil y).2 (.inl (hwtH y hxy))
        unfold wpOp
        simp only [ho]
        rw [hst.wanted (all := l.toArray) ok hoH hwtH (fun g d hgd => by
          unfold dstOf at hgd ⊢
          obtain ⟨og, hog, hd⟩ := Option.bind_eq_some_iff.1 hgd
          have hgn : g < n := by have := (Array.getElem?_eq_some_iff.1 hog).1; omega
          rw [take_get l hgn] at hog
          rw [hog]; exact hd)]
        by_cases hwg : wantG vs o = true
        · rw [if_pos hwg] at hd ⊢
          have hdo : Does P o a.eval w (fun v w' => wpAny P .any l.toArray Q (f + (l.length - n)) (listed.setIfInBounds i true) (a.put o.dst v) w') := (Does.congr hex.symm hd).imp next
          exact .inl hdo.wp
        · rw [if_neg hwg] at hd ⊢
          exact next _ _ hd
      · have hl0 : left (l.take n).toArray listed ≤ f := by
          have : left (l.take n).toArray listed = 0 := by
            unfold left
            refine List.countP_eq_zero.2 fun j hj => ?_
            have hjn : j < n := by have := List.mem_range.1 hj; omega
            rcases Bool.eq_false_or_eq_true (lis listed j) with e | e
            · simp [e]
            · exact absurd ⟨j, hjn, e⟩ hun
          omega
        have := wpAny_more _ _ _ _ (ih listed a w hsz htl hl0 hst hsh hw)
        rw [show f + 1 + (l.length - n) = f + (l.length - n) + 1 by omega]; exact this
  have := key n (Array.replicate l.toArray.size false) base w.drew (by simp) (fun t _ ht => by simp [ht]) (by have := left_le (ops := (l.take n).toArray) (Array.replicate l.toArray.size false); omega) St.start' (fun i j h => by rw [lis_none] at h; cases h) (by
      have e : lis (Array.replicate l.toArray.size false) = fun _ => false := funext fun j => lis_none _ j
      rw [e]; exact h0)
  rw [show n + (l.length - n) = l.toArray.size by simp; omega] at this
  exact this
theorem St.swap {vs vs' : List Value} {L : Nat → Bool} {a : Act} (h : St ops vs base L a) (e : ∀ j, L j = true → vs'.getD j undef = vs.getD j undef) : St ops vs' base L a :=
  ⟨h.defers, h.size, fun j d hj hd => by rw [e j hj]; exact h.put j d hj hd, h.rest⟩
def noGuard (ops : Array Oper) : Bool := (List.range ops.size).all fun i => match ops[i]? with | some o => o.guard.isNone | none => true
/-- What is to be shown of an operation where values hang on the order: γ tells which order it was. -/
def LookG {Γ : Type} (P : Program) (ops : Array Oper) (vs : Γ → List Value) (fin : Γ → Act) (WR : Γ → (Nat → Bool) → World → Prop) (i : Nat) (o : Oper) : Prop :=
  ∀ γ L w, L i = false → (∀ j, waits ops i j = true → L j = true) → Shut ops L → WR γ L w →
    ∃ γ', (∀ j, L j = true → (vs γ').getD j undef = (vs γ).getD j undef) ∧ Does P o (fin γ').eval w fun v w' => (o.dst ≠ none → v = (vs γ').getD i undef) ∧ ∀ L', (∀ j, L' j = true ↔ (L j = true ∨ j = i)) → WR γ' L' w'
/-- As 'wp_draw', where values hang on the order. -/
theorem wp_draw_g {Γ : Type} {id : Nat} {Q : Exit → Act → World → Prop} {w : World} {l : List Oper} (hm : P.follows .mixedOrders = true) (vs : Γ → List Value) (WR : Γ → (Nat → Bool) → World → Prop) {N : Nat} (hN : base.tmps.size = N) (hB : (okB l.toArray N && noGuard l.toArray) = true)
    (fin : Γ → Act) (hfin : ∀ γ, seqA l.toArray (vs γ) base l.length = fin γ) (γ0 : Γ) (h0 : WR γ0 (fun _ => false) w.drew) (each : Each (LookG P l.toArray vs fin WR) 0 l) (hend : ∀ γ L w, (∀ j, j < l.length → L j = true) → WR γ L w → Q .normal (fin γ) w) :
    (Code.region id l.toArray true).wp P Q base w := by
  rw [Bool.and_eq_true] at hB
  have ok : Ok l.toArray base.tmps.size := by rw [hN]; exact okB_ok hB.1
  have hgn : ∀ (i : Nat) (o : Oper), l.toArray[i]? = some o → o.guard = none := fun i o ho => by
    have h := List.all_eq_true.1 hB.2 i (List.mem_range.2 (Array.getElem?_eq_some_iff.1 ho).1)
    simp only [ho] at h; simpa using h
  refine wp_region_any hm ?_
  have fin1 : ∀ γ listed a w, listed.size = l.toArray.size → St l.toArray (vs γ) base (lis listed) a → WR γ (lis listed) w → Region.ready .any l.toArray listed = [] → Q .normal a w := by
    intro γ listed a w hsz hst hw hr
    have hall := ready_none ok hsz hr
    have e : a = seqA l.toArray (vs γ) base l.length := by
      refine hst.one ⟨(seq_st (vs := vs γ) ok l.length).defers, (seq_st (vs := vs γ) ok l.length).size, fun j d _ hjd => ?_, fun s hn => ?_⟩
      · have hj : j < l.length := by
          unfold dstOf at hjd
          obtain ⟨o, ho, _⟩ := Option.bind_eq_some_iff.1 hjd
          have := (Array.getElem?_eq_some_iff.1 ho).1; simpa using this
        exact (seq_st ok l.length).put j d (by simpa using hj) hjd
      · exact (seq_st (vs := vs γ) ok l.length).rest s fun j hj => hn j (hall j (by simpa using hj))
    rw [e, hfin]; exact hend γ _ w (fun j hj => hall j (by simpa using hj)) hw
  have key : ∀ (fuel : Nat) (γ : Γ) (listed : Array Bool) (a : Act) (w : World), listed.size = l.toArray.size → left l.toArray listed ≤ fuel → St l.toArray (vs γ) base (lis listed) a → Shut l.toArray (lis listed) → WR γ (lis listed) w → wpAny P .any l.toArray Q fuel listed a w := by
    intro fuel
    induction fuel with
    | zero =>
      intro γ listed a w hsz hl hst hsh hw
      have hr : Region.ready .any l.toArray listed = [] := by
        refine List.eq_nil_iff_forall_not_mem.2 fun i hi => ?_
        obtain ⟨o, ho, hf, _⟩ := ready_waits hi
        have : 0 < (List.range l.toArray.size).countP (fun j => !lis listed j) := List.countP_pos_iff.2 ⟨i, List.mem_range.2 (Array.getElem?_eq_some_iff.1 ho).1, (by simp [hf])⟩
        unfold left at hl; omega
      exact ⟨hr, fin1 γ _ _ _ hsz hst hw hr⟩
    | succ fuel ih =>
      intro γ listed a w hsz hl hst hsh hw
      refine ⟨fin1 γ _ _ _ hsz hst hw, fun i hi => ?_⟩
      obtain ⟨o, ho, hf, hwt⟩ := ready_waits hi
      have hio : i < l.toArray.size := (Array.getElem?_eq_some_iff.1 ho).1
      have hil : i < listed.size := by omega
      have hlook := Each.at each (j := i) (o := o) (by simpa using ho)
      rw [Nat.zero_add] at hlook
      obtain ⟨γ', hsw, hd⟩ := hlook γ (lis listed) w hf hwt hsh hw
      have hst' := hst.swap hsw
      have hex := execOp_congr o (ok.sel i o ho) (hst'.reads ok ho (Nat.le_of_lt (by simpa using hio)) hwt)
      rw [hfin γ'] at hex
      have hod : dstOf l.toArray i = o.dst := by simp only [dstOf, ho, Option.bind_some]
      have hdo : Does P o a.eval w (fun v w' => wpAny P .any l.toArray Q fuel (listed.setIfInBounds i true) (a.put o.dst v) w') := (Does.congr hex.symm hd).imp fun v w' ⟨hv, hW⟩ => by
        refine ih γ' _ _ _ (by simp [hsz]) (by have := left_set hil hio hf; omega) ?_ ?_ (hW _ (lis_set hil))
        · rw [← hod]
          exact hst'.step ok (lis_set hil) fun d hd' => hv (by rw [← hod, hd']; simp)
        · intro x y hx hxy
          rcases (lis_set hil x).1 hx with hx | rfl
          · exact (lis_set hil y).2 (.inl (hsh x y hx hxy))
          · exact (lis_set hil y).2 (.inl (hwt y hxy))
      unfold wpOp
      simp only [ho, Region.wanted, hgn i o ho, if_true]
      exact .inl hdo.wp
  refine key _ γ0 _ _ _ (by simp) (left_le _) St.start' (fun i j h => by rw [lis_none] at h; cases h) ?_
  have e : lis (Array.replicate l.toArray.size false) = fun _ => false := funext fun j => lis_none _ j
  rw [e]; exact h0
end
end Go.Proofs.Ytofnokikjfmfgaa
