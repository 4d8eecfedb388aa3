/-
  Memory and its worlds: what stays, what is a call's own, regions that draw their order, jumps, rows of elements, numbers and texts that are handed in, counters, copies. Of all values.
-/
import Derived.Laws.BitsAllLaws
import Derived.Laws.BitsLemmas
import Derived.KernelRfl
import Derived.Orders
import Derived.OrdersIn
import Derived.CallsIn
import Derived.RangeFuncCalls
import Derived.Tactics
import Derived.StillTail
import Derived.WalkKit
import Derived.ProofKit
import Derived.Below
import Derived.Lib.Hide
import Derived.RegionTactic
import Derived.ChangeAlike
import Derived.Deep.Draws
import Derived.Deep.QuietTactic
import Derived.BigQuiet
import Derived.WalkSmall
import Derived.Laws.BytesArg
import Derived.OwnWalk
import Derived.WalkSpells
import Derived.Maps.AppendAt
import Derived.Lib.AtoiErrMem
import Derived.RangeFuncOwn
import Derived.Deep.MidRow
import Derived.WalkMore
import Derived.ScopeJumps
import Derived.ChangeSlices
import Derived.OpenShut
import Derived.ShutString
import Derived.ChangeOld
import Derived.Carry
import Derived.Deep.Strs
import Derived.WalkLawsBesides
import Derived.RangeFuncFrom
import Derived.RangeFuncLeaves
import Derived.Lib.LazyBuf
import Derived.Test.YtlghkdkaifcliaaDoorChecked
import Derived.Test.YtlghkdkaifcliaaDoorCf
namespace Go.Proofs.YtlghkdkaifcliaaDoor
open Go
theorem wrap_small (n : Nat) (h : n < 9223372036854775808) : IntKind.i64.wrap (n : Int) = (n : Int) := by
  have e : (n : Int) % 2 ^ 64 = n := Int.emod_eq_of_lt (by omega) (by omega)
  simp only [IntKind.wrap, IntKind.bits, IntKind.signed, e]
  rw [if_neg]
  simp
  omega
theorem wrapI {a : Int} (h0 : -1000000000000000000 ≤ a) (h1 : a ≤ 1000000000000000000) : IntKind.i64.wrap a = a := by
  rw [IntKind.wrap_i64]; omega
theorem i64_or_nat (a b : Nat) (ha : a < 9223372036854775808) (hb : b < 9223372036854775808) : bits .or .i64 (a : Int) (b : Int) = ((a ||| b : Nat) : Int) := by
  have hx : a ||| b < 2 ^ 63 := Nat.or_lt_two_pow (by omega) (by omega)
  show IntKind.i64.wrap ((BitVec.ofInt 64 (a : Int) ||| BitVec.ofInt 64 (b : Int)).toNat : Int) = _
  rw [BitVec.toNat_or, ofInt_u64 a (by omega), ofInt_u64 b (by omega)]
  exact wrap_small _ (by omega)
theorem i64_and_nat (a b : Nat) (ha : a < 9223372036854775808) (hb : b < 9223372036854775808) : bits .and .i64 (a : Int) (b : Int) = ((a &&& b : Nat) : Int) := by
  have hx : a &&& b < 2 ^ 63 := Nat.and_lt_two_pow _ (by omega)
  show IntKind.i64.wrap ((BitVec.ofInt 64 (a : Int) &&& BitVec.ofInt 64 (b : Int)).toNat : Int) = _
  rw [BitVec.toNat_and, ofInt_u64 a (by omega), ofInt_u64 b (by omega)]
  exact wrap_small _ (by omega)
theorem i64_xor_nat (a b : Nat) (ha : a < 9223372036854775808) (hb : b < 9223372036854775808) : bits .xor .i64 (a : Int) (b : Int) = ((a ^^^ b : Nat) : Int) := by
  have hx : a ^^^ b < 2 ^ 63 := Nat.xor_lt_two_pow (by omega) (by omega)
  show IntKind.i64.wrap ((BitVec.ofInt 64 (a : Int) ^^^ BitVec.ofInt 64 (b : Int)).toNat : Int) = _
  rw [BitVec.toNat_xor, ofInt_u64 a (by omega), ofInt_u64 b (by omega)]
  exact wrap_small _ (by omega)
/-- A number whose last i bits are 0, and one of i bits. -/
theorem i64_join (i : Nat) {a b : Int} (ha : 0 ≤ a) (ha2 : a < 9223372036854775808) (hb : 0 ≤ b) (hb2 : b < 2 ^ i) (hb3 : b < 9223372036854775808) (hm : a % 2 ^ i = 0) : bits .or .i64 a b = a + b := by
  obtain ⟨A, rfl⟩ := Int.eq_ofNat_of_zero_le ha
  obtain ⟨B, rfl⟩ := Int.eq_ofNat_of_zero_le hb
  rw [i64_or_nat A B (by omega) (by omega), nat_join i A B (by exact_mod_cast hm) (by exact_mod_cast hb2)]
  omega
/-- The last i bits of a number. -/
theorem i64_mask (i : Nat) {a : Int} (ha : 0 ≤ a) (ha2 : a < 9223372036854775808) {m : Int} (hm : m = ((2 ^ i - 1 : Nat) : Int)) (hm2 : m < 9223372036854775808) : bits .and .i64 a m = a % ((2 ^ i : Nat) : Int) := by
  obtain ⟨A, rfl⟩ := Int.eq_ofNat_of_zero_le ha
  subst hm
  rw [i64_and_nat A _ (by omega) (by omega), Nat.and_two_pow_sub_one_eq_mod]
  omega
theorem u8_mask (i : Nat) (a : UInt8) {m : Int} (hm : m = ((2 ^ i - 1 : Nat) : Int)) (hm2 : m < 256) : bits .and .u8 (a.toNat : Int) m = ((a.toNat % 2 ^ i : Nat) : Int) := by
  subst hm
  rw [u8_and_nat _ _ a.toNat_lt (by omega), Nat.and_two_pow_sub_one_eq_mod]
end Go.Proofs.YtlghkdkaifcliaaDoor
namespace Go.Proofs.YtlghkdkaifcliaaDoor
open Go
set_option maxRecDepth 100000

/-- What an operation does: its value and the world behind it; it does not panic. -/
def Does (P : Program) (o : Oper) (ρ : Operand → Value) (w : World) (R : Value → World → Prop) : Prop :=
  match (execOp ρ o).run P w with
  | .ok (.value v) w' => R v w'
  | .ok .skip w' => R undef w'
  | .ok (.enter f args) w' => Calls P f args w' fun e w'' => ∃ v, e = .returned v ∧ R v w''
  | _ => False
theorem Does.imp {P : Program} {o : Oper} {ρ : Operand → Value} {w : World} {R R' : Value → World → Prop} (h : Does P o ρ w R) (hr : ∀ v w', R v w' → R' v w') : Does P o ρ w R' := by
  unfold Does at *
  generalize (execOp ρ o).run P w = r at *
  cases r with
  | ok x w' => cases x <;> first | exact h.elim | exact hr _ _ h | exact Calls.mono h (fun e w'' k => by obtain ⟨v, he, k⟩ := k; exact ⟨v, he, hr v w'' k⟩)
  | halt x w' => exact h.elim
theorem Does.congr {P : Program} {o : Oper} {ρ ρ' : Operand → Value} {w : World} {R : Value → World → Prop} (e : execOp ρ o = execOp ρ' o) (h : Does P o ρ w R) : Does P o ρ' w R := by
  unfold Does at *; rw [← e]; exact h
theorem Does.wp {P : Program} {o : Oper} {a : Act} {w : World} {K : Act → World → Prop} {Q : Exit → Act → World → Prop} (h : Does P o a.eval w (fun v w' => K (a.put o.dst v) w')) : o.wp P a w K Q := by
  unfold Oper.wp
  unfold Does at h
  generalize (execOp a.eval o).run P w = r at *
  cases r with
  | ok x w' => cases x <;> first | exact h.elim | exact h | exact Calls.mono h (fun e w'' k => by obtain ⟨v, he, k⟩ := k; subst he; exact k)
  | halt x w' => exact h.elim
theorem Does.wpIn {P : Program} {o : Oper} {a : Act} {w : World} {K : Act → World → Prop} {Q : Exit → Act → World → Prop} {l n : Nat} (hd : ∀ c, o.op ≠ .defer c) (h : Does P o a.eval w (fun v w' => K (a.put o.dst v) w')) : o.wpIn (Fence.wide.inRound l) n P a w K Q := by
  unfold Oper.wpIn
  refine ⟨fun _ _ => trivial, ?_⟩
  rw [Oper.semAt_eq _ _ _ hd]
  unfold Does at h
  generalize (execOp a.eval o).run P w = r at *
  cases r with
  | ok x w' =>
    cases x <;> first
      | exact h.elim
      | exact h
      | exact ⟨(fun k => by cases k), CallsIn.inRound _ (callsIn_wide.2 (Calls.mono h (fun e w'' k => by obtain ⟨v, he, k⟩ := k; subst he; exact k)))⟩
  | halt x w' => exact h.elim
def dstOf (ops : Array Oper) (i : Nat) : Option Tmp := (ops[i]?).bind (·.dst)
def waits (ops : Array Oper) (i j : Nat) : Bool := match ops[i]? with | some o => o.after.any (fun e => Region.binds .any e && e.on == j) | none => false
def slotsOf (o : Oper) : List Tmp := o.op.operands.toList.filterMap fun | .tmp t => some t | _ => none
def plainOp (o : Oper) : Bool := match o.op with | .select _ _ => false | .defer _ => false | _ => true
/-- Each operation is plain, writes a slot of its own, and reads what it waits for, or what nobody writes. -/
def okB (ops : Array Oper) (N : Nat) : Bool :=
  (List.range ops.size).all fun i => match ops[i]? with
   | none => true
   | some o => plainOp o && (match o.guard with | some (g, _) => waits ops i g && (dstOf ops g).isSome | none => true) && (match o.dst with | some d => decide (d < N) | none => true) && o.after.all (fun e => !Region.binds .any e || decide (e.on < i)) &&
      (List.range ops.size).all fun j =>
        (decide (i = j) || (match o.dst with | none => true | some d => dstOf ops j != some d)) &&
        ((slotsOf o).all fun s => dstOf ops j != some s || (decide (j < i) && waits ops i j))
structure Ok (ops : Array Oper) (N : Nat) : Prop where
  guard : ∀ (i : Nat) (o : Oper), ops[i]? = some o → ∀ g b, o.guard = some (g, b) → waits ops i g = true ∧ ∃ d, dstOf ops g = some d
  sel : ∀ (i : Nat) (o : Oper), ops[i]? = some o → ∀ cs b, o.op ≠ .select cs b
  dfr : ∀ (i : Nat) (o : Oper), ops[i]? = some o → ∀ c, o.op ≠ .defer c
  dst : ∀ (i : Nat) (d : Tmp), dstOf ops i = some d → d < N
  back : ∀ (i : Nat) (o : Oper), ops[i]? = some o → ∀ e ∈ o.after, Region.binds .any e = true → e.on < i
  one : ∀ (i j : Nat) (d : Tmp), dstOf ops i = some d → dstOf ops j = some d → i = j
  reads : ∀ (i : Nat) (o : Oper), ops[i]? = some o → ∀ s ∈ slotsOf o, ∀ j, dstOf ops j = some s → j < i ∧ waits ops i j = true
theorem okB_ok {ops : Array Oper} {N : Nat} (h : okB ops N = true) : Ok ops N := by
  have get : ∀ i o, ops[i]? = some o → (plainOp o = true ∧ ∀ g b, o.guard = some (g, b) → waits ops i g = true ∧ ∃ d, dstOf ops g = some d) ∧ (∀ d, o.dst = some d → d < N) ∧ (∀ e ∈ o.after, Region.binds .any e = true → e.on < i) ∧
      ∀ j, j < ops.size → (i = j ∨ ∀ d, o.dst = some d → dstOf ops j ≠ some d) ∧ ∀ s ∈ slotsOf o, dstOf ops j = some s → j < i ∧ waits ops i j = true := by
    intro i o ho
    have hi : i < ops.size := (Array.getElem?_eq_some_iff.1 ho).1
    have h1 := List.all_eq_true.1 h i (List.mem_range.2 hi)
    simp only [ho, Bool.and_eq_true] at h1
    obtain ⟨⟨⟨⟨a1, a0⟩, a2⟩, a3⟩, a4⟩ := h1
    refine ⟨⟨a1, fun g b hg => by rw [hg] at a0; simp only [Bool.and_eq_true] at a0; exact ⟨a0.1, Option.isSome_iff_exists.1 a0.2⟩⟩, fun d hd => by simpa [hd] using a2, fun e he hb => by have := Array.all_eq_true'.1 a3 e he; simpa [hb] using this, fun j hj => ?_⟩
    have h2 := List.all_eq_true.1 a4 j (List.mem_range.2 hj)
    simp only [Bool.and_eq_true, Bool.or_eq_true, decide_eq_true_eq] at h2
    refine ⟨h2.1.imp id fun k d hd => by simpa [hd] using k, fun s hs he => ?_⟩
    have h3 := List.all_eq_true.1 h2.2 s hs
    simpa [he] using h3
  have some_of : ∀ i d, dstOf ops i = some d → ∃ o, ops[i]? = some o ∧ o.dst = some d ∧ i < ops.size := fun i d hd => by
    unfold dstOf at hd
    obtain ⟨o, ho, hd⟩ := Option.bind_eq_some_iff.1 hd
    exact ⟨o, ho, hd, (Array.getElem?_eq_some_iff.1 ho).1⟩
  refine ⟨fun i o ho => ?_, fun i o ho cs b e => ?_, fun i o ho c e => ?_, fun i d hd => ?_, fun i o ho => (get i o ho).2.2.1, fun i j d hi hj => ?_, fun i o ho s hs j hj => ?_⟩
  · exact (get i o ho).1.2
  · have := (get i o ho).1.1; simp [plainOp, e] at this
  · have := (get i o ho).1.1; simp [plainOp, e] at this
  · obtain ⟨o, ho, hd, _⟩ := some_of i d hd; exact (get i o ho).2.1 d hd
  · obtain ⟨o, ho, hd, _⟩ := some_of i d hi
    obtain ⟨_, _, _, hjs⟩ := some_of j d hj
    exact (((get i o ho).2.2.2 j hjs).1).elim id fun k => absurd hj (k d hd)
  · obtain ⟨_, _, _, hjs⟩ := some_of j s hj
    exact ((get i o ho).2.2.2 j hjs).2 s hs hj

/-- The act behind the first i operations, in the order of the text; vs: their values. -/
def seqA (ops : Array Oper) (vs : List Value) (base : Act) : Nat → Act
  | 0 => base
  | i + 1 => (seqA ops vs base i).put (dstOf ops i) (vs.getD i undef)
/-- The act behind those operations that L tells. -/
structure St (ops : Array Oper) (vs : List Value) (base : Act) (L : Nat → Bool) (a : Act) : Prop where
  defers : a.defers = base.defers
  size : a.tmps.size = base.tmps.size
  put : ∀ j d, L j = true → dstOf ops j = some d → a.tmps[d]? = some (vs.getD j undef)
  rest : ∀ s, (∀ j, L j = true → dstOf ops j ≠ some s) → a.tmps[s]? = base.tmps[s]?
section
variable {P : Program} {ops : Array Oper} {vs : List Value} {base : Act}
theorem St.step {L L' : Nat → Bool} {a : Act} {i : Nat} {v : Value} (ok : Ok ops base.tmps.size) (h : St ops vs base L a) (hL : ∀ j, L' j = true ↔ (L j = true ∨ j = i)) (hv : ∀ d, dstOf ops i = some d → v = vs.getD i undef) :
    St ops vs base L' (a.put (dstOf ops i) v) := by
  cases hd : dstOf ops i with
  | none =>
    refine ⟨h.defers, h.size, fun j d hj hjd => ?_, fun s hs => h.rest s fun j hj => hs j ((hL j).2 (.inl hj))⟩
    rcases (hL j).1 hj with hj | rfl
    · exact h.put j d hj hjd
    · rw [hd] at hjd; cases hjd
  | some e =>
    have he := ok.dst i e hd
    refine ⟨h.defers, by simp [Act.put, h.size], fun j d hj hjd => ?_, fun s hs => ?_⟩
    · by_cases hji : j = i
      · subst hji
        rw [hd] at hjd; cases hjd
        rw [← hv e hd]
        simp [Act.put, h.size, he]
      · have hne : e ≠ d := fun x => hji (ok.one j i d hjd (by rw [hd, x]))
        simp only [Act.put]
        rw [Array.getElem?_setIfInBounds_ne hne]
        exact h.put j d (((hL j).1 hj).resolve_right hji) hjd
    · have hne : e ≠ s := fun x => hs i ((hL i).2 (.inr rfl)) (by rw [hd, x])
      simp only [Act.put]
      rw [Array.getElem?_setIfInBounds_ne hne]
      exact h.rest s fun j hj => hs j ((hL j).2 (.inl hj))
theorem seq_st (ok : Ok ops base.tmps.size) : ∀ i, St ops vs base (fun j => decide (j < i)) (seqA ops vs base i)
  | 0 => ⟨rfl, rfl, (fun j d hj => by simp at hj), fun _ _ => rfl⟩
  | i + 1 => St.step ok (seq_st ok i) (fun j => by simp; omega) (fun _ _ => rfl)
theorem St.one {a b : Act} {L : Nat → Bool} (ha : St ops vs base L a) (hb : St ops vs base L b) : a = b := by
  obtain ⟨ta, da⟩ := a
  obtain ⟨tb, db⟩ := b
  have hd : da = db := ha.defers.trans hb.defers.symm
  have ht : ta = tb := by
    refine Array.ext_getElem? fun s => ?_
    by_cases hex : ∃ j, L j = true ∧ dstOf ops j = some s
    · obtain ⟨j, hj, hjs⟩ := hex
      exact (ha.put j s hj hjs).trans (hb.put j s hj hjs).symm
    · have hn : ∀ j, L j = true → dstOf ops j ≠ some s := fun j hj e => hex ⟨j, hj, e⟩
      exact (ha.rest s hn).trans (hb.rest s hn).symm
  rw [hd, ht]
/-- What an operation reads, where all has come for which it waits, is what stands there at the end. -/
theorem St.reads {L : Nat → Bool} {a : Act} {i n : Nat} {o : Oper} (ok : Ok ops base.tmps.size) (h : St ops vs base L a) (ho : ops[i]? = some o) (hin : i ≤ n) (hd : ∀ j, waits ops i j = true → L j = true) :
    ∀ x ∈ o.op.operands, a.eval x = (seqA ops vs base n).eval x := by
  intro x hx
  cases x with
  | tmp s =>
    have hs : s ∈ slotsOf o := List.mem_filterMap.2 ⟨.tmp s, by simpa using hx, rfl⟩
    have k := seq_st (vs := vs) ok n
    have e : a.tmps[s]? = (seqA ops vs base n).tmps[s]? := by
      by_cases hex : ∃ j, dstOf ops j = some s
      · obtain ⟨j, hj⟩ := hex
        obtain ⟨hlt, hw⟩ := ok.reads i o ho s hs j hj
        rw [h.put j s (hd j hw) hj, k.put j s (by simp; omega) hj]
      · rw [h.rest s (fun j _ e => hex ⟨j, e⟩), k.rest s (fun j _ e => hex ⟨j, e⟩)]
    simp only [Act.eval, Array.getD_eq_getD_getElem?, e]
  | const _ => rfl
  | global _ => rfl
  | func _ => rfl
def Shut (ops : Array Oper) (L : Nat → Bool) : Prop := ∀ i j, L i = true → waits ops i j = true → L j = true
def lis (listed : Array Bool) (j : Nat) : Bool := listed.getD j false
theorem lis_set {listed : Array Bool} {i : Nat} (hi : i < listed.size) (j : Nat) : lis (listed.setIfInBounds i true) j = true ↔ (lis listed j = true ∨ j = i) := by
  unfold lis
  by_cases h : i = j
  · subst h; simp [hi]
  · simp only [Array.getD_eq_getD_getElem?, Array.getElem?_setIfInBounds_ne h]
    exact ⟨.inl, fun k => k.resolve_right fun e => h e.symm⟩
theorem ready_waits {i : Nat} {listed : Array Bool} (h : i ∈ Region.ready .any ops listed) : ∃ o, ops[i]? = some o ∧ lis listed i = false ∧ ∀ j, waits ops i j = true → lis listed j = true := by
  obtain ⟨h0, o, ho, hall⟩ := mem_ready.1 h
  refine ⟨o, ho, ?_, fun j hj => ?_⟩
  · unfold lis
    rcases Nat.lt_or_ge i listed.size with hl | hl
    · simp [hl] at h0 ⊢; exact h0
    · simp [hl]
  · unfold waits at hj
    rw [ho] at hj
    obtain ⟨e, he, hb⟩ := Array.any_eq_true'.1 hj
    simp only [Bool.and_eq_true, beq_iff_eq] at hb
    rw [← hb.2]; exact hall e he hb.1
theorem ready_none (ok : Ok ops base.tmps.size) {listed : Array Bool} (hs : listed.size = ops.size) (h : Region.ready .any ops listed = []) : ∀ i, i < ops.size → lis listed i = true := by
  intro i
  induction i using Nat.strongRecOn with
  | _ i ih =>
    intro hi
    rcases Bool.eq_false_or_eq_true (lis listed i) with e | e
    · exact e
    · exfalso
      have : i ∈ Region.ready .any ops listed := mem_ready.2 ⟨by unfold lis at e; simp [hs, hi] at e ⊢; exact e, ops[i], Array.getElem?_eq_getElem hi, fun x hx hxb => ih x.on (ok.back i _ (Array.getElem?_eq_getElem hi) x hx hxb) (by have := ok.back i _ (Array.getElem?_eq_getElem hi) x hx hxb; omega)⟩
      rw [h] at this; cases this
def left (ops : Array Oper) (listed : Array Bool) : Nat := (List.range ops.size).countP (fun j => !lis listed j)
theorem countP_less {p q : Nat → Bool} {i : Nat} : ∀ {l : List Nat}, i ∈ l → (∀ j, p j = true → q j = true) → q i = true → p i = false → l.countP p < l.countP q
  | [], h, _, _, _ => by cases h
  | x :: l, h, hpq, hq, hp => by
    have hle : l.countP p ≤ l.countP q := List.countP_mono_left fun j _ => hpq j
    rw [List.countP_cons, List.countP_cons]
    by_cases e : x = i
    · subst e; simp [hq, hp]; omega
    · have := countP_less ((List.mem_cons.1 h).resolve_left fun k => e k.symm) hpq hq hp
      have : (if p x = true then 1 else 0) ≤ (if q x = true then 1 else 0) := by
        by_cases hx : p x = true
        · simp [hx, hpq x hx]
        · simp [hx]
      omega
theorem left_set {listed : Array Bool} {i : Nat} (hi : i < listed.size) (hs : i < ops.size) (h : lis listed i = false) : left ops (listed.setIfInBounds i true) < left ops listed := by
  refine countP_less (i := i) (List.mem_range.2 hs) (fun j hj => ?_) (by simp [h]) ?_
  · rcases Bool.eq_false_or_eq_true (lis listed j) with e | e
    · have := (lis_set hi j).2 (.inl e); simp [this] at hj
    · simp [e]
  · have := (lis_set hi i).2 (.inr rfl); simp [this]
def boolOf : Value → Option Bool
  | .bool b => some b
  | _ => none
/-- Whether an operation is carried out, by the values. -/
def wantG (vs : List Value) (o : Oper) : Bool := match o.guard with | none => true | some (g, b) => boolOf (vs.getD g undef) == some b
/-- What is to be shown of an operation. -/
def Look (P : Program) (ops : Array Oper) (vs : List Value) (fin : Act) (WR : (Nat → Bool) → World → Prop) (i : Nat) (o : Oper) : Prop :=
  match o.guard with
  | none => ∀ L w, L i = false → (∀ j, waits ops i j = true → L j = true) → Shut ops L → WR L w →
      Does P o fin.eval w fun v w' => (o.dst ≠ none → v = vs.getD i undef) ∧ ∀ L', (∀ j, L' j = true ↔ (L j = true ∨ j = i)) → WR L' w'
  | some (g, b) => ∀ L w, L i = false → (∀ j, waits ops i j = true → L j = true) → Shut ops L → WR L w →
      if boolOf (vs.getD g undef) == some b then Does P o fin.eval w fun v w' => (o.dst ≠ none → v = vs.getD i undef) ∧ ∀ L', (∀ j, L' j = true ↔ (L j = true ∨ j = i)) → WR L' w'
      else (o.dst ≠ none → undef = vs.getD i undef) ∧ ∀ L', (∀ j, L' j = true ↔ (L j = true ∨ j = i)) → WR L' w
theorem Look.at {fin : Act} {WR : (Nat → Bool) → World → Prop} {i : Nat} {o : Oper} (h : Look P ops vs fin WR i o) {L : Nat → Bool} {w : World} (h0 : L i = false) (h1 : ∀ j, waits ops i j = true → L j = true) (h2 : Shut ops L) (h3 : WR L w) :
    if wantG vs o then Does P o fin.eval w fun v w' => (o.dst ≠ none → v = vs.getD i undef) ∧ ∀ L', (∀ j, L' j = true ↔ (L j = true ∨ j = i)) → WR L' w'
    else (o.dst ≠ none → undef = vs.getD i undef) ∧ ∀ L', (∀ j, L' j = true ↔ (L j = true ∨ j = i)) → WR L' w := by
  unfold Look at h
  unfold wantG
  cases hg : o.guard with
  | none => rw [hg] at h; exact h L w h0 h1 h2 h3
  | some gb => obtain ⟨g, b⟩ := gb; rw [hg] at h; exact h L w h0 h1 h2 h3
theorem St.wanted {L : Nat → Bool} {a : Act} {i : Nat} {o : Oper} {all : Array Oper} (ok : Ok ops base.tmps.size) (h : St ops vs base L a) (ho : ops[i]? = some o) (hd : ∀ j, waits ops i j = true → L j = true) (hall : ∀ g d, dstOf ops g = some d → dstOf all g = some d) :
    Region.wanted o (yielded all a.tmps) = wantG vs o := by
  unfold Region.wanted wantG
  cases hg : o.guard with
  | none => rfl
  | some gb =>
    obtain ⟨g, b⟩ := gb
    obtain ⟨hw, d, hdd⟩ := ok.guard i o ho g b hg
    have hp := h.put g d (hd g hw) hdd
    have h2 : (all[g]?).bind (·.dst) = some d := hall g d hdd
    simp only [yielded, h2, Option.bind_some, hp]
    cases vs.getD g undef <;> rfl
/-- The common part: 'any' stands for the calculus. -/
theorem draw_core {Q : Exit → Act → World → Prop} (any : Nat → Array Bool → Act → World → Prop) (op : Nat → (Act → World → Prop) → Act → World → Prop)
    (h0 : ∀ listed a w, Region.ready .any ops listed = [] → Q .normal a w → any 0 listed a w)
    (hs : ∀ fuel listed a w, (Region.ready .any ops listed = [] → Q .normal a w) → (∀ i ∈ Region.ready .any ops listed, op i (any fuel (listed.setIfInBounds i true)) a w) → any (fuel + 1) listed a w)
    (hop : ∀ i o a w K, ops[i]? = some o → (if Region.wanted o (yielded ops a.tmps) then Does P o a.eval w (fun v w' => K (a.put o.dst v) w') else K (a.put o.dst undef) w) → op i K a w)
    (ok : Ok ops base.tmps.size) (WR : (Nat → Bool) → World → Prop)
    (each : ∀ i o, ops[i]? = some o → Look P ops vs (seqA ops vs base ops.size) WR i o)
    (hend : ∀ L w, (∀ j, j < ops.size → L j = true) → WR L w → Q .normal (seqA ops vs base ops.size) w) :
    ∀ fuel listed a w, listed.size = ops.size → left ops listed ≤ fuel → St ops vs base (lis listed) a → Shut ops (lis listed) → WR (lis listed) w → any fuel listed a w := by
  have fin : ∀ listed a w, listed.size = ops.size → St ops vs base (lis listed) a → WR (lis listed) w → Region.ready .any ops listed = [] → Q .normal a w := by
    intro listed a w hsz hst hw hr
    have hall := ready_none ok hsz hr
    have e : a = seqA ops vs base ops.size := by
      refine hst.one ⟨(seq_st (vs := vs) ok ops.size).defers, (seq_st (vs := vs) ok ops.size).size, fun j d _ hjd => ?_, fun s hn => ?_⟩
      · have hj : j < ops.size := by
          unfold dstOf at hjd
          obtain ⟨o, ho, _⟩ := Option.bind_eq_some_iff.1 hjd
          exact (Array.getElem?_eq_some_iff.1 ho).1
        exact (seq_st ok ops.size).put j d (by simpa using hj) hjd
      · exact (seq_st (vs := vs) ok ops.size).rest s fun j hj => hn j (hall j (by simpa using hj))
    rw [e]; exact hend _ w hall hw
  intro fuel
  induction fuel with
  | zero =>
    intro listed a w hsz hl hst hsh hw
    have hr : Region.ready .any ops listed = [] := by
      refine List.eq_nil_iff_forall_not_mem.2 fun i hi => ?_
      obtain ⟨o, ho, hf, _⟩ := ready_waits hi
      have : 0 < (List.range ops.size).countP (fun j => !lis listed j) := List.countP_pos_iff.2 ⟨i, List.mem_range.2 (Array.getElem?_eq_some_iff.1 ho).1, (by simp [hf])⟩
      unfold left at hl; omega
    exact h0 _ _ _ hr (fin _ _ _ hsz hst hw hr)
  | succ fuel ih =>
    intro listed a w hsz hl hst hsh hw
    refine hs _ _ _ _ (fin _ _ _ hsz hst hw) fun i hi => ?_
    obtain ⟨o, ho, hf, hwt⟩ := ready_waits hi
    have hio : i < ops.size := (Array.getElem?_eq_some_iff.1 ho).1
    have hil : i < listed.size := by omega
    refine hop i o a w _ ho ?_
    have hd := (each i o ho).at hf hwt hsh hw
    have hex := execOp_congr o (ok.sel i o ho) (hst.reads ok ho (Nat.le_of_lt hio) hwt)
    have next : ∀ v w', ((o.dst ≠ none → v = vs.getD i undef) ∧ ∀ L', (∀ j, L' j = true ↔ (lis listed j = true ∨ j = i)) → WR L' w') → any fuel (listed.setIfInBounds i true) (a.put o.dst v) w' := by
      intro v w' ⟨hv, hW⟩
      have hod : dstOf ops i = o.dst := by simp [dstOf, ho]
      refine ih _ _ _ (by simp [hsz]) (by have := left_set hil hio hf; omega) ?_ ?_ (hW _ (lis_set hil))
      · rw [← hod]
        exact hst.step ok (lis_set hil) fun d hd' => hv (by rw [← hod, hd']; simp)
      · intro x y hx hxy
        rcases (lis_set hil x).1 hx with hx | rfl
        · exact (lis_set hil y).2 (.inl (hsh x y hx hxy))
        · exact (lis_set hil y).2 (.inl (hwt y hxy))
    rw [hst.wanted ok ho hwt (fun _ _ h => h)]
    by_cases hwg : wantG vs o = true
    · rw [if_pos hwg] at hd ⊢
      exact (Does.congr hex.symm hd).imp next
    · rw [if_neg hwg] at hd ⊢
      exact next _ _ hd
theorem lis_none (n j : Nat) : lis (Array.replicate n false) j = false := by
  unfold lis
  rcases Nat.lt_or_ge j n with h | h <;> simp [h]
theorem St.start' {m : Nat} : St ops vs base (lis (Array.replicate m false)) base :=
  ⟨rfl, rfl, (fun j d hj => by rw [lis_none] at hj; cases hj), fun _ _ => rfl⟩
theorem St.start : St ops vs base (lis (Array.replicate ops.size false)) base :=
  ⟨rfl, rfl, (fun j d hj => by rw [lis_none] at hj; cases hj), fun _ _ => rfl⟩
theorem left_le (listed : Array Bool) : left ops listed ≤ ops.size := by
  have := List.countP_le_length (p := fun j => !lis listed j) (l := List.range ops.size)
  simpa [left] using this
/-- Each operation of a list, in turn. -/
def Each (p : Nat → Oper → Prop) : Nat → List Oper → Prop
  | _, [] => True
  | i, o :: l => p i o ∧ Each p (i + 1) l
theorem Each.at {p : Nat → Oper → Prop} : ∀ {l : List Oper} {i j : Nat} {o : Oper}, Each p i l → l[j]? = some o → p (i + j) o
  | [], _, _, _, _, h => by simp at h
  | x :: l, i, 0, o, h, k => by simp at k; subst k; exact h.1
  | x :: l, i, j + 1, o, h, k => by
    have := Each.at (j := j) h.2 (by simpa using k)
    rwa [show i + 1 + j = i + (j + 1) by omega] at this
theorem wp_draw {id : Nat} {Q : Exit → Act → World → Prop} {w : World} {l : List Oper} (hm : P.follows .mixedOrders = true) (vs : List Value) (WR : (Nat → Bool) → World → Prop) {N : Nat} (hN : base.tmps.size = N) (hB : okB l.toArray N = true)
    {fin : Act} (hfin : seqA l.toArray vs base l.length = fin) (h0 : WR (fun _ => false) w.drew) (each : Each (Look P l.toArray vs fin WR) 0 l) (hend : ∀ L w, (∀ j, j < l.length → L j = true) → WR L w → Q .normal fin w) :
    (Code.region id l.toArray true).wp P Q base w := by
  subst hfin
  have ok : Ok l.toArray base.tmps.size := by rw [hN]; exact okB_ok hB
  refine wp_region_any hm ?_
  refine draw_core (P := P) (vs := vs) (base := base) (Q := Q) (wpAny P .any l.toArray Q) (wpOp P l.toArray Q) (fun _ _ _ h k => ⟨h, k⟩) (fun _ _ _ _ h k => ⟨h, k⟩) ?_ ok WR
    (fun i o ho => by have := Each.at each (j := i) (o := o) (by simpa using ho); rw [Nat.zero_add] at this; exact this) hend _ _ _ _ (by simp) (left_le _) St.start (fun i j h => by rw [lis_none] at h; cases h) (by
      have : lis (Array.replicate l.toArray.size false) = fun _ => false := funext fun j => lis_none _ j
      rw [this]; exact h0)
  intro i o a w K ho hd
  unfold wpOp
  simp only [ho]
  by_cases hw : Region.wanted o (yielded l.toArray a.tmps) = true
  · rw [if_pos hw] at hd ⊢; exact .inl hd.wp
  · rw [if_neg hw] at hd ⊢; exact hd
theorem wpIn_draw {id n r : Nat} {Q : Exit → Act → World → Prop} {w : World} {l : List Oper} (hm : P.follows .mixedOrders = true) (vs : List Value) (WR : (Nat → Bool) → World → Prop) {N : Nat} (hN : base.tmps.size = N) (hB : okB l.toArray N = true)
    {fin : Act} (hfin : seqA l.toArray vs base l.length = fin) (h0 : WR (fun _ => false) w.drew) (each : Each (Look P l.toArray vs fin WR) 0 l) (hend : ∀ L w, (∀ j, j < l.length → L j = true) → WR L w → Q .normal fin w) :
    (Code.region id l.toArray true).wpIn (Fence.wide.inRound r) n P Q base w := by
  subst hfin
  have ok : Ok l.toArray base.tmps.size := by rw [hN]; exact okB_ok hB
  refine wpIn_region_any hm ?_
  refine draw_core (P := P) (vs := vs) (base := base) (Q := Q) (wpAnyIn (Fence.wide.inRound r) n P .any l.toArray Q) (wpOpIn (Fence.wide.inRound r) n P l.toArray Q) (fun _ _ _ h k => ⟨h, k⟩) (fun _ _ _ _ h k => ⟨h, k⟩) ?_ ok WR
    (fun i o ho => by have := Each.at each (j := i) (o := o) (by simpa using ho); rw [Nat.zero_add] at this; exact this) hend _ _ _ _ (by simp) (left_le _) St.start (fun i j h => by rw [lis_none] at h; cases h) (by
      have : lis (Array.replicate l.toArray.size false) = fun _ => false := funext fun j => lis_none _ j
      rw [this]; exact h0)
  intro i o a w K ho hd
  unfold wpOpIn
  simp only [ho]
  by_cases hw : Region.wanted o (yielded l.toArray a.tmps) = true
  · rw [if_pos hw] at hd ⊢; exact hd.wpIn (ok.dfr i o ho)
  · rw [if_neg hw] at hd ⊢; exact ⟨fun _ _ => trivial, hd⟩
theorem same_at {L L' : Nat → Bool} {i : Nat} (h : ∀ j, L' j = true ↔ (L j = true ∨ j = i)) {j : Nat} (hne : j ≠ i) : L' j = L j := by
  have := h j
  cases e : L' j <;> cases e2 : L j <;> simp_all
theorem true_at {L L' : Nat → Bool} {i : Nat} (h : ∀ j, L' j = true ↔ (L j = true ∨ j = i)) : L' i = true := (h i).2 (.inr rfl)
/-- Who waits has not come before the one for which it waits. -/
theorem Shut.no {ops : Array Oper} {L : Nat → Bool} (h : Shut ops L) {i j : Nat} (hw : waits ops j i = true) (hi : L i = false) : L j = false := by
  cases e : L j
  · rfl
  · rw [h j i e hw] at hi; cases hi
/-- The same but for how often an order was drawn. -/
structure Eqv (w w' : World) : Prop where
  os : w'.os = w.os
  tape : w'.tape = w.tape
  output : w'.output = w.output
  heap : w'.heap = w.heap
theorem Eqv.refl (w : World) : Eqv w w := ⟨rfl, rfl, rfl, rfl⟩
theorem Eqv.trans {a b c : World} (h : Eqv a b) (k : Eqv b c) : Eqv a c := ⟨k.os.trans h.os, k.tape.trans h.tape, k.output.trans h.output, k.heap.trans h.heap⟩
theorem Eqv.symm {a b : World} (h : Eqv a b) : Eqv b a := ⟨h.os.symm, h.tape.symm, h.output.symm, h.heap.symm⟩
theorem Eqv.drew (w : World) : Eqv w w.drew := ⟨rfl, rfl, rfl, rfl⟩
theorem Eqv.cell {w w' : World} (h : Eqv w w') (a : Addr) : w'.cell? a = w.cell? a := World.cell?_of_block (w := w) (by rw [h.heap])
theorem Eqv.frozen {w w' : World} (h : Eqv w w') (a : Addr) : w'.frozen? a = w.frozen? a := World.frozen?_of_block (w := w) (by rw [h.heap])
theorem Eqv.size {w w' : World} (h : Eqv w w') : w'.heap.size = w.heap.size := by rw [h.heap]
theorem Eqv.alloc {w w' : World} (h : Eqv w w') (o : Obj) : Eqv (w.alloc o) (w'.alloc o) := by
  obtain ⟨a, b, c, d⟩ := h
  exact ⟨a, b, c, by show w'.heap.push o = w.heap.push o; rw [d]⟩
theorem Eqv.setCell {w w' : World} (h : Eqv w w') (p : Addr) (v : Value) : Eqv (w.setCell p v) (w'.setCell p v) := by
  obtain ⟨a, b, c, d⟩ := h
  refine ⟨?_, ?_, ?_, ?_⟩ <;> simp only [World.setCell, d] <;> (try split) <;> simp_all
/-- Two writers in turn: what holds ahead of the first, between them, behind the second. -/
def Turn (p q : Nat) (A B C : World → Prop) (L : Nat → Bool) (w : World) : Prop := (L p = false → A w) ∧ (L p = true → L q = false → B w) ∧ (L q = true → C w)
theorem Turn.start {p q : Nat} {A B C : World → Prop} {w : World} (h : A w) : Turn p q A B C (fun _ => false) w := ⟨fun _ => h, (fun k => by cases k), (fun k => by cases k)⟩
theorem Turn.keep {p q i : Nat} {A B C : World → Prop} {L L' : Nat → Bool} {w w' : World} (h : Turn p q A B C L w) (hp : p ≠ i) (hq : q ≠ i) (k : ∀ j, L' j = true ↔ (L j = true ∨ j = i))
    (ha : A w → A w') (hb : B w → B w') (hc : C w → C w') : Turn p q A B C L' w' := by
  have ep := same_at k hp
  have eq := same_at k hq
  exact ⟨fun x => ha (h.1 (ep ▸ x)), fun x y => hb (h.2.1 (ep ▸ x) (eq ▸ y)), fun x => hc (h.2.2 (eq ▸ x))⟩
theorem Turn.same {p q i : Nat} {A B C : World → Prop} {L L' : Nat → Bool} {w : World} (h : Turn p q A B C L w) (hp : p ≠ i) (hq : q ≠ i) (k : ∀ j, L' j = true ↔ (L j = true ∨ j = i)) : Turn p q A B C L' w :=
  h.keep hp hq k id id id
theorem Turn.first {p q : Nat} {A B C : World → Prop} {L L' : Nat → Bool} {w' : World} (hq : L q = false) (hpq : q ≠ p) (k : ∀ j, L' j = true ↔ (L j = true ∨ j = p)) (h : B w') : Turn p q A B C L' w' := by
  have eq := (same_at k hpq).trans hq
  exact ⟨fun x => (by rw [true_at k] at x; cases x), fun _ _ => h, fun x => (by rw [eq] at x; cases x)⟩
theorem Turn.second {p q : Nat} {A B C : World → Prop} {L L' : Nat → Bool} {w' : World} (hp : L p = true) (k : ∀ j, L' j = true ↔ (L j = true ∨ j = q)) (h : C w') : Turn p q A B C L' w' :=
  ⟨fun x => (by rw [(k p).2 (.inl hp)] at x; cases x), fun _ x => (by rw [true_at k] at x; cases x), fun _ => h⟩
/-- One writer: what holds ahead of it, and behind it. -/
def Once (p : Nat) (A B : World → Prop) (L : Nat → Bool) (w : World) : Prop := (L p = false → A w) ∧ (L p = true → B w)
theorem Once.start {p : Nat} {A B : World → Prop} {w : World} (h : A w) : Once p A B (fun _ => false) w := ⟨fun _ => h, (fun k => by cases k)⟩
theorem Once.keep {p i : Nat} {A B : World → Prop} {L L' : Nat → Bool} {w w' : World} (h : Once p A B L w) (hp : p ≠ i) (k : ∀ j, L' j = true ↔ (L j = true ∨ j = i)) (ha : A w → A w') (hb : B w → B w') : Once p A B L' w' := by
  have ep := same_at k hp
  exact ⟨fun x => ha (h.1 (ep ▸ x)), fun x => hb (h.2 (ep ▸ x))⟩
theorem Once.same {p i : Nat} {A B : World → Prop} {L L' : Nat → Bool} {w : World} (h : Once p A B L w) (hp : p ≠ i) (k : ∀ j, L' j = true ↔ (L j = true ∨ j = i)) : Once p A B L' w := h.keep hp k id id
theorem Once.done {p : Nat} {A B : World → Prop} {L L' : Nat → Bool} {w' : World} (k : ∀ j, L' j = true ↔ (L j = true ∨ j = p)) (h : B w') : Once p A B L' w' :=
  ⟨fun x => (by rw [true_at k] at x; cases x), fun _ => h⟩
theorem wpAny_more {md : Region.Mode} {Q : Exit → Act → World → Prop} : ∀ (f : Nat) (listed : Array Bool) (a : Act) (w : World), wpAny P md ops Q f listed a w → wpAny P md ops Q (f + 1) listed a w
  | 0, listed, a, w, h => ⟨fun _ => h.2, fun i hi => by rw [h.1] at hi; cases hi⟩
  | f + 1, listed, a, w, h => ⟨h.1, fun i hi => wpOp_mono (fun a' w' k => wpAny_more f _ a' w' k) (h.2 i hi)⟩
theorem take_get (l : List Oper) {n i : Nat} (hi : i < n) : (l.take n).toArray[i]? = l.toArray[i]? := by simp [hi]
theorem take_waits (l : List Oper) {n i : Nat} (hi : i < n) (j : Nat) : waits (l.take n).toArray i j = waits l.toArray i j := by unfold waits; rw [take_get l hi]
/-- As 'wp_draw', but the last operations, from number n on, which come behind all others and in the order of the text, are walked one by one (an append among them: its value hangs on the world). -/
theorem wp_draw_tail {id : Nat} {Q : Exit → Act → World → Prop} {w : World} {l : List Oper} (n : Nat) (hm : P.follows .mixedOrders = true) (vs : List Value) (WR : (Nat → Bool) → World → Prop) {N : Nat} (hN : base.tmps.size = N) (hB : okB (l.take n).toArray N = true)
    (hT : (decide (n < l.length) && Region.sinkB .any l.toArray n && Region.chainB .any l.toArray n && Region.seqB .any l.toArray (l.length - n) n (List.replicate n true ++ List.replicate (l.length - n) false).toArray) = true)
    {fin : Act} (hfin : seqA (l.take n).toArray vs base n = fin) (h0 : WR (fun _ => false) w.drew) (each : Each (Look P (l.take n).toArray vs fin WR) 0 (l.take n))
    (hend : ∀ L w, (∀ j, j < n → L j = true) → WR L w → wpList P l.toArray Q (l.drop n) fin w) : (Code.region id l.toArray true).wp P Q base w := by
  subst hfin
  simp only [Bool.and_eq_true, decide_eq_true_eq] at hT
  obtain ⟨⟨⟨hn, hs⟩, hc⟩, hseq⟩ := hT
  have ok : Ok (l.take n).toArray base.tmps.size := by rw [hN]; exact okB_ok hB
  have hH : (l.take n).toArray.size = n := by simp; omega
  have hns : n < l.toArray.size := by simpa using hn
  refine wp_region_any hm ?_
  have key : ∀ (f : Nat) (listed : Array Bool) (a : Act) (w : World), listed.size = l.length → (∀ t, n ≤ t → t < l.length → listed.getD t true = false) → left (l.take n).toArray listed ≤ f →
      St (l.take n).toArray vs base (lis listed) a → Shut (l.take n).toArray (lis listed) → WR (lis listed) w → wpAny P .any l.toArray Q (f + (l.length - n)) listed a w := by
    intro f
    induction f with
    | zero =>
      intro listed a w hsz htl hl hst hsh hw
      have hall : ∀ j, j < n → lis listed j = true := fun j hj => by
        rcases Bool.eq_false_or_eq_true (lis listed j) with e | e
        · exact e
        · have : 0 < (List.range (l.take n).toArray.size).countP (fun j => !lis listed j) := List.countP_pos_iff.2 ⟨j, List.mem_range.2 (by omega), (by simp [e])⟩
          unfold left at hl; omega
      have ha : a = seqA (l.take n).toArray vs base n := by
        refine hst.one ⟨(seq_st (vs := vs) ok n).defers, (seq_st (vs := vs) ok n).size, fun j d _ hjd => ?_, fun s hno => ?_⟩
        · have hj : j < n := by
            unfold dstOf at hjd
            obtain ⟨o, ho, _⟩ := Option.bind_eq_some_iff.1 hjd
            have := (Array.getElem?_eq_some_iff.1 ho).1; omega
          exact (seq_st ok n).put j d (by simpa using hj) hjd
        · exact (seq_st (vs := vs) ok n).rest s fun j hj => hno j (hall j (by simpa using hj))
      have hlisted : listed = (List.replicate n true ++ List.replicate (l.length - n) false).toArray := by
        refine Array.ext (by simp; omega) fun i h1 h2 => ?_
        by_cases hi : i < n
        · have := hall i hi
          unfold lis at this
          simp [h1] at this
          simp [this, hi]
        · have := htl i (by omega) (by omega)
          simp [h1] at this
          simp [this, List.getElem_append, hi]
      have hq := wpAny_of_seq (P := P) (md := .any) (ops := l.toArray) (Q' := Q) (l.drop n) n listed a w (fun j => by simp [List.getElem?_drop]) (by rw [List.length_drop, hlisted]; exact hseq) (by rw [ha]; exact hend _ w hall hw)
      rw [List.length_drop] at hq
      rw [Nat.zero_add]; exact hq
    | succ f ih =>
      intro listed a w hsz htl hl hst hsh hw
      by_cases hun : ∃ j, j < n ∧ lis listed j = false
      · obtain ⟨j0, hj0, hj0f⟩ := hun
        have inv : HeadInv .any l.toArray n listed := by
          refine ⟨by simpa using hsz, fun j oj hoj hlj e he hb => ?_, fun t h1 h2 => htl t h1 (by simpa using h2)⟩
          have hjn : j < n := by
            rcases Nat.lt_or_ge j n with h | h
            · exact h
            · have hjs : j < l.length := by have := (Array.getElem?_eq_some_iff.1 hoj).1; simpa using this
              have := htl j h hjs
              rw [getD_both this] at hlj; cases hlj
          refine hsh j e.on hlj ?_
          rw [take_waits l hjn]
          unfold waits; rw [hoj]
          exact Array.any_eq_true'.2 ⟨e, he, by simp [hb]⟩
        have hready : ∀ i ∈ Region.ready .any l.toArray listed, i < n := fun i hi => by
          rcases Nat.lt_or_ge i n with h | h
          · exact h
          · refine absurd hi (tail_waits hs hc hns inv (n - j0) j0 rfl hj0 ?_ i h)
            unfold lis at hj0f; exact getD_in (by omega) hj0f
        have hnonempty : Region.ready .any l.toArray listed ≠ [] := by
          intro he
          have all : ∀ i, i < n → lis listed i = true := by
            intro i
            induction i using Nat.strongRecOn with
            | _ i ihh =>
              intro hi
              rcases Bool.eq_false_or_eq_true (lis listed i) with e | e
              · exact e
              · exfalso
                have hio : i < l.toArray.size := by omega
                have : i ∈ Region.ready .any l.toArray listed := mem_ready.2 ⟨by unfold lis at e; exact getD_in (by rw [hsz]; simpa using hio) e, l.toArray[i], Array.getElem?_eq_getElem hio, fun x hx hxb => by
                  have hb := ok.back i l.toArray[i] (by rw [take_get l hi]; exact Array.getElem?_eq_getElem hio) x hx hxb
                  exact ihh x.on hb (by omega)⟩
                rw [he] at this; cases this
          rw [all j0 hj0] at hj0f; cases hj0f
        rw [show f + 1 + (l.length - n) = (f + (l.length - n)) + 1 by omega]
        refine ⟨fun he => absurd he hnonempty, fun i hi => ?_⟩
        have hin := hready i hi
        obtain ⟨o, ho, hf, hwt⟩ := ready_waits hi
        have hoH : (l.take n).toArray[i]? = some o := by rw [take_get l hin]; exact ho
        have hwtH : ∀ j, waits (l.take n).toArray i j = true → lis listed j = true := fun j hj => hwt j (by rw [← take_waits l hin]; exact hj)
        have hil : i < listed.size := by omega
        have hlook := Each.at each (j := i) (o := o) (by simpa using hoH)
        rw [Nat.zero_add] at hlook
        have hd := hlook.at hf hwtH hsh hw
        have hex := execOp_congr o (ok.sel i o hoH) (hst.reads ok hoH (show i ≤ n by omega) hwtH)
        have next : ∀ v w', ((o.dst ≠ none → v = vs.getD i undef) ∧ ∀ L', (∀ j, L' j = true ↔ (lis listed j = true ∨ j = i)) → WR L' w') → wpAny P .any l.toArray Q (f + (l.length - n)) (listed.setIfInBounds i true) (a.put o.dst v) w' := by
          intro v w' ⟨hv, hW⟩
          have hod : dstOf (l.take n).toArray i = o.dst := by simp only [dstOf, hoH, Option.bind_some]
          refine ih _ _ _ (by simp [hsz]) (fun t h1 h2 => ?_) (by have := left_set (ops := (l.take n).toArray) hil (by omega) hf; omega) ?_ ?_ (hW _ (lis_set hil))
          · rw [getD_set_ne true (by omega)]; exact htl t h1 h2
          · rw [← hod]
            exact hst.step ok (lis_set hil) fun d hd' => hv (by rw [← hod, hd']; simp)
          · intro x y hx hxy
            rcases (lis_set hil x).1 hx with hx | rfl
            · exact (lis_set hil y).2 (.inl (hsh x y hx hxy))
            · exact (lis_set hil y).2 (.inl (hwtH y hxy))
        unfold wpOp
        simp only [ho]
        rw [hst.wanted (all := l.toArray) ok hoH hwtH (fun g d hgd => by
          unfold dstOf at hgd ⊢
          obtain ⟨og, hog, hd⟩ := Option.bind_eq_some_iff.1 hgd
          have hgn : g < n := by have := (Array.getElem?_eq_some_iff.1 hog).1; omega
          rw [take_get l hgn] at hog
          rw [hog]; exact hd)]
        by_cases hwg : wantG vs o = true
        · rw [if_pos hwg] at hd ⊢
          have hdo : Does P o a.eval w (fun v w' => wpAny P .any l.toArray Q (f + (l.length - n)) (listed.setIfInBounds i true) (a.put o.dst v) w') := (Does.congr hex.symm hd).imp next
          exact .inl hdo.wp
        · rw [if_neg hwg] at hd ⊢
          exact next _ _ hd
      · have hl0 : left (l.take n).toArray listed ≤ f := by
          have : left (l.take n).toArray listed = 0 := by
            unfold left
            refine List.countP_eq_zero.2 fun j hj => ?_
            have hjn : j < n := by have := List.mem_range.1 hj; omega
            rcases Bool.eq_false_or_eq_true (lis listed j) with e | e
            · simp [e]
            · exact absurd ⟨j, hjn, e⟩ hun
          omega
        have := wpAny_more _ _ _ _ (ih listed a w hsz htl hl0 hst hsh hw)
        rw [show f + 1 + (l.length - n) = f + (l.length - n) + 1 by omega]; exact this
  have := key n (Array.replicate l.toArray.size false) base w.drew (by simp) (fun t _ ht => by simp [ht]) (by have := left_le (ops := (l.take n).toArray) (Array.replicate l.toArray.size false); omega) St.start' (fun i j h => by rw [lis_none] at h; cases h) (by
      have e : lis (Array.replicate l.toArray.size false) = fun _ => false := funext fun j => lis_none _ j
      rw [e]; exact h0)
  rw [show n + (l.length - n) = l.toArray.size by simp; omega] at this
  exact this
theorem St.swap {vs vs' : List Value} {L : Nat → Bool} {a : Act} (h : St ops vs base L a) (e : ∀ j, L j = true → vs'.getD j undef = vs.getD j undef) : St ops vs' base L a :=
  ⟨h.defers, h.size, fun j d hj hd => by rw [e j hj]; exact h.put j d hj hd, h.rest⟩
def noGuard (ops : Array Oper) : Bool := (List.range ops.size).all fun i => match ops[i]? with | some o => o.guard.isNone | none => true
/-- What is to be shown of an operation where values hang on the order: γ tells which order it was. -/
def LookG {Γ : Type} (P : Program) (ops : Array Oper) (vs : Γ → List Value) (fin : Γ → Act) (WR : Γ → (Nat → Bool) → World → Prop) (i : Nat) (o : Oper) : Prop :=
  ∀ γ L w, L i = false → (∀ j, waits ops i j = true → L j = true) → Shut ops L → WR γ L w →
    ∃ γ', (∀ j, L j = true → (vs γ').getD j undef = (vs γ).getD j undef) ∧ Does P o (fin γ').eval w fun v w' => (o.dst ≠ none → v = (vs γ').getD i undef) ∧ ∀ L', (∀ j, L' j = true ↔ (L j = true ∨ j = i)) → WR γ' L' w'
/-- As 'wp_draw', where values hang on the order. -/
theorem wp_draw_g {Γ : Type} {id : Nat} {Q : Exit → Act → World → Prop} {w : World} {l : List Oper} (hm : P.follows .mixedOrders = true) (vs : Γ → List Value) (WR : Γ → (Nat → Bool) → World → Prop) {N : Nat} (hN : base.tmps.size = N) (hB : (okB l.toArray N && noGuard l.toArray) = true)
    (fin : Γ → Act) (hfin : ∀ γ, seqA l.toArray (vs γ) base l.length = fin γ) (γ0 : Γ) (h0 : WR γ0 (fun _ => false) w.drew) (each : Each (LookG P l.toArray vs fin WR) 0 l) (hend : ∀ γ L w, (∀ j, j < l.length → L j = true) → WR γ L w → Q .normal (fin γ) w) :
    (Code.region id l.toArray true).wp P Q base w := by
  rw [Bool.and_eq_true] at hB
  have ok : Ok l.toArray base.tmps.size := by rw [hN]; exact okB_ok hB.1
  have hgn : ∀ (i : Nat) (o : Oper), l.toArray[i]? = some o → o.guard = none := fun i o ho => by
    have h := List.all_eq_true.1 hB.2 i (List.mem_range.2 (Array.getElem?_eq_some_iff.1 ho).1)
    simp only [ho] at h; simpa using h
  refine wp_region_any hm ?_
  have fin1 : ∀ γ listed a w, listed.size = l.toArray.size → St l.toArray (vs γ) base (lis listed) a → WR γ (lis listed) w → Region.ready .any l.toArray listed = [] → Q .normal a w := by
    intro γ listed a w hsz hst hw hr
    have hall := ready_none ok hsz hr
    have e : a = seqA l.toArray (vs γ) base l.length := by
      refine hst.one ⟨(seq_st (vs := vs γ) ok l.length).defers, (seq_st (vs := vs γ) ok l.length).size, fun j d _ hjd => ?_, fun s hn => ?_⟩
      · have hj : j < l.length := by
          unfold dstOf at hjd
          obtain ⟨o, ho, _⟩ := Option.bind_eq_some_iff.1 hjd
          have := (Array.getElem?_eq_some_iff.1 ho).1; simpa using this
        exact (seq_st ok l.length).put j d (by simpa using hj) hjd
      · exact (seq_st (vs := vs γ) ok l.length).rest s fun j hj => hn j (hall j (by simpa using hj))
    rw [e, hfin]; exact hend γ _ w (fun j hj => hall j (by simpa using hj)) hw
  have key : ∀ (fuel : Nat) (γ : Γ) (listed : Array Bool) (a : Act) (w : World), listed.size = l.toArray.size → left l.toArray listed ≤ fuel → St l.toArray (vs γ) base (lis listed) a → Shut l.toArray (lis listed) → WR γ (lis listed) w → wpAny P .any l.toArray Q fuel listed a w := by
    intro fuel
    induction fuel with
    | zero =>
      intro γ listed a w hsz hl hst hsh hw
      have hr : Region.ready .any l.toArray listed = [] := by
        refine List.eq_nil_iff_forall_not_mem.2 fun i hi => ?_
        obtain ⟨o, ho, hf, _⟩ := ready_waits hi
        have : 0 < (List.range l.toArray.size).countP (fun j => !lis listed j) := List.countP_pos_iff.2 ⟨i, List.mem_range.2 (Array.getElem?_eq_some_iff.1 ho).1, (by simp [hf])⟩
        unfold left at hl; omega
      exact ⟨hr, fin1 γ _ _ _ hsz hst hw hr⟩
    | succ fuel ih =>
      intro γ listed a w hsz hl hst hsh hw
      refine ⟨fin1 γ _ _ _ hsz hst hw, fun i hi => ?_⟩
      obtain ⟨o, ho, hf, hwt⟩ := ready_waits hi
      have hio : i < l.toArray.size := (Array.getElem?_eq_some_iff.1 ho).1
      have hil : i < listed.size := by omega
      have hlook := Each.at each (j := i) (o := o) (by simpa using ho)
      rw [Nat.zero_add] at hlook
      obtain ⟨γ', hsw, hd⟩ := hlook γ (lis listed) w hf hwt hsh hw
      have hst' := hst.swap hsw
      have hex := execOp_congr o (ok.sel i o ho) (hst'.reads ok ho (Nat.le_of_lt (by simpa using hio)) hwt)
      rw [hfin γ'] at hex
      have hod : dstOf l.toArray i = o.dst := by simp only [dstOf, ho, Option.bind_some]
      have hdo : Does P o a.eval w (fun v w' => wpAny P .any l.toArray Q fuel (listed.setIfInBounds i true) (a.put o.dst v) w') := (Does.congr hex.symm hd).imp fun v w' ⟨hv, hW⟩ => by
        refine ih γ' _ _ _ (by simp [hsz]) (by have := left_set hil hio hf; omega) ?_ ?_ (hW _ (lis_set hil))
        · rw [← hod]
          exact hst'.step ok (lis_set hil) fun d hd' => hv (by rw [← hod, hd']; simp)
        · intro x y hx hxy
          rcases (lis_set hil x).1 hx with hx | rfl
          · exact (lis_set hil y).2 (.inl (hsh x y hx hxy))
          · exact (lis_set hil y).2 (.inl (hwt y hxy))
      unfold wpOp
      simp only [ho, Region.wanted, hgn i o ho, if_true]
      exact .inl hdo.wp
  refine key _ γ0 _ _ _ (by simp) (left_le _) St.start' (fun i j h => by rw [lis_none] at h; cases h) ?_
  have e : lis (Array.replicate l.toArray.size false) = fun _ => false := funext fun j => lis_none _ j
  rw [e]; exact h0
end
end Go.Proofs.YtlghkdkaifcliaaDoor
namespace Go.Proofs.YtlghkdkaifcliaaDoor
open Go.RowKit
set_option maxRecDepth 100000
section
variable {P : Program} {base : Act}
/-- What is said of the values may be chosen anew behind operation i, but for those that are there. -/
def Goes {Γ : Type} (vs : Γ → List Value) (WR : Γ → (Nat → Bool) → World → Prop) (i : Nat) (dst : Option Tmp) (γ : Γ) (L : Nat → Bool) (v : Value) (w' : World) : Prop :=
  ∃ γ', (∀ j, L j = true → (vs γ').getD j undef = (vs γ).getD j undef) ∧ (dst ≠ none → v = (vs γ').getD i undef) ∧ ∀ L', (∀ j, L' j = true ↔ (L j = true ∨ j = i)) → WR γ' L' w'
theorem Goes.on {Γ : Type} {vs : Γ → List Value} {WR : Γ → (Nat → Bool) → World → Prop} {i : Nat} {dst : Option Tmp} {γ : Γ} {L : Nat → Bool} {v : Value} {w' : World} (hv : dst ≠ none → v = (vs γ).getD i undef) (h : ∀ L', (∀ j, L' j = true ↔ (L j = true ∨ j = i)) → WR γ L' w') : Goes vs WR i dst γ L v w' :=
  ⟨γ, fun _ _ => rfl, hv, h⟩
/-- What is to be shown of an operation; γ tells what calls have answered so far. -/
def LookH {Γ : Type} (P : Program) (ops : Array Oper) (vs : Γ → List Value) (fin : Γ → Act) (WR : Γ → (Nat → Bool) → World → Prop) (i : Nat) (o : Oper) : Prop :=
  match o.guard with
  | none => ∀ γ L w, L i = false → (∀ j, waits ops i j = true → L j = true) → Shut ops L → WR γ L w →
      Does P o (fin γ).eval w (Goes vs WR i o.dst γ L)
  | some (g, b) => ∀ γ L w, L i = false → (∀ j, waits ops i j = true → L j = true) → Shut ops L → WR γ L w →
      if boolOf ((vs γ).getD g undef) == some b then Does P o (fin γ).eval w (Goes vs WR i o.dst γ L)
      else (o.dst ≠ none → undef = (vs γ).getD i undef) ∧ ∀ L', (∀ j, L' j = true ↔ (L j = true ∨ j = i)) → WR γ L' w
theorem LookH.at {Γ : Type} {ops : Array Oper} {vs : Γ → List Value} {fin : Γ → Act} {WR : Γ → (Nat → Bool) → World → Prop} {i : Nat} {o : Oper} (h : LookH P ops vs fin WR i o) {γ : Γ} {L : Nat → Bool} {w : World} (h0 : L i = false) (h1 : ∀ j, waits ops i j = true → L j = true) (h2 : Shut ops L) (h3 : WR γ L w) :
    if wantG (vs γ) o then Does P o (fin γ).eval w (Goes vs WR i o.dst γ L)
    else (o.dst ≠ none → undef = (vs γ).getD i undef) ∧ ∀ L', (∀ j, L' j = true ↔ (L j = true ∨ j = i)) → WR γ L' w := by
  unfold LookH at h
  unfold wantG
  cases hg : o.guard with
  | none => rw [hg] at h; exact h γ L w h0 h1 h2 h3
  | some gb => obtain ⟨g, b⟩ := gb; rw [hg] at h; exact h γ L w h0 h1 h2 h3
/-- As 'wp_draw_g', what is said of the values being chosen behind each operation. -/
theorem wp_draw_h {Γ : Type} {id : Nat} {Q : Exit → Act → World → Prop} {w : World} {l : List Oper} (hm : P.follows .mixedOrders = true) (vs : Γ → List Value) (WR : Γ → (Nat → Bool) → World → Prop) {N : Nat} (hN : base.tmps.size = N) (hB : okB l.toArray N = true)
    (fin : Γ → Act) (hfin : ∀ γ, seqA l.toArray (vs γ) base l.length = fin γ) (γ0 : Γ) (h0 : WR γ0 (fun _ => false) w.drew) (each : Each (LookH P l.toArray vs fin WR) 0 l) (hend : ∀ γ L w, (∀ j, j < l.length → L j = true) → WR γ L w → Q .normal (fin γ) w) :
    (Code.region id l.toArray true).wp P Q base w := by
  have ok : Ok l.toArray base.tmps.size := by rw [hN]; exact okB_ok hB
  refine wp_region_any hm ?_
  have fin1 : ∀ γ listed a w, listed.size = l.toArray.size → St l.toArray (vs γ) base (lis listed) a → WR γ (lis listed) w → Region.ready .any l.toArray listed = [] → Q .normal a w := by
    intro γ listed a w hsz hst hw hr
    have hall := ready_none ok hsz hr
    have e : a = seqA l.toArray (vs γ) base l.length := by
      refine hst.one ⟨(seq_st (vs := vs γ) ok l.length).defers, (seq_st (vs := vs γ) ok l.length).size, fun j d _ hjd => ?_, fun s hn => ?_⟩
      · have hj : j < l.length := by
          unfold dstOf at hjd
          obtain ⟨o, ho, _⟩ := Option.bind_eq_some_iff.1 hjd
          have := (Array.getElem?_eq_some_iff.1 ho).1; simpa using this
        exact (seq_st ok l.length).put j d (by simpa using hj) hjd
      · exact (seq_st (vs := vs γ) ok l.length).rest s fun j hj => hn j (hall j (by simpa using hj))
    rw [e, hfin]; exact hend γ _ w (fun j hj => hall j (by simpa using hj)) hw
  have key : ∀ (fuel : Nat) (γ : Γ) (listed : Array Bool) (a : Act) (w : World), listed.size = l.toArray.size → left l.toArray listed ≤ fuel → St l.toArray (vs γ) base (lis listed) a → Shut l.toArray (lis listed) → WR γ (lis listed) w → wpAny P .any l.toArray Q fuel listed a w := by
    intro fuel
    induction fuel with
    | zero =>
      intro γ listed a w hsz hl hst hsh hw
      have hr : Region.ready .any l.toArray listed = [] := by
        refine List.eq_nil_iff_forall_not_mem.2 fun i hi => ?_
        obtain ⟨o, ho, hf, _⟩ := ready_waits hi
        have : 0 < (List.range l.toArray.size).countP (fun j => !lis listed j) := List.countP_pos_iff.2 ⟨i, List.mem_range.2 (Array.getElem?_eq_some_iff.1 ho).1, (by simp [hf])⟩
        unfold left at hl; omega
      exact ⟨hr, fin1 γ _ _ _ hsz hst hw hr⟩
    | succ fuel ih =>
      intro γ listed a w hsz hl hst hsh hw
      refine ⟨fin1 γ _ _ _ hsz hst hw, fun i hi => ?_⟩
      obtain ⟨o, ho, hf, hwt⟩ := ready_waits hi
      have hio : i < l.toArray.size := (Array.getElem?_eq_some_iff.1 ho).1
      have hil : i < listed.size := by omega
      have hlook := Each.at each (j := i) (o := o) (by simpa using ho)
      rw [Nat.zero_add] at hlook
      have hd := hlook.at hf hwt hsh hw
      have hex := execOp_congr o (ok.sel i o ho) (hst.reads ok ho (Nat.le_of_lt (by simpa using hio)) hwt)
      rw [hfin γ] at hex
      have hod : dstOf l.toArray i = o.dst := by simp only [dstOf, ho, Option.bind_some]
      have next : ∀ (γ' : Γ) (v : Value) (w' : World), (∀ j, lis listed j = true → (vs γ').getD j undef = (vs γ).getD j undef) → (o.dst ≠ none → v = (vs γ').getD i undef) → (∀ L', (∀ j, L' j = true ↔ (lis listed j = true ∨ j = i)) → WR γ' L' w') → wpAny P .any l.toArray Q fuel (listed.setIfInBounds i true) (a.put o.dst v) w' := by
        intro γ' v w' hsw hv hW
        have hst' := hst.swap hsw
        refine ih γ' _ _ _ (by simp [hsz]) (by have := left_set hil hio hf; omega) ?_ ?_ (hW _ (lis_set hil))
        · rw [← hod]
          exact hst'.step ok (lis_set hil) fun d hd' => hv (by rw [← hod, hd']; simp)
        · intro x y hx hxy
          rcases (lis_set hil x).1 hx with hx | rfl
          · exact (lis_set hil y).2 (.inl (hsh x y hx hxy))
          · exact (lis_set hil y).2 (.inl (hwt y hxy))
      unfold wpOp
      simp only [ho]
      rw [hst.wanted ok ho hwt (fun _ _ h => h)]
      by_cases hwg : wantG (vs γ) o = true
      · rw [if_pos hwg] at hd ⊢
        have hdo : Does P o a.eval w (fun v w' => wpAny P .any l.toArray Q fuel (listed.setIfInBounds i true) (a.put o.dst v) w') := (Does.congr hex.symm hd).imp fun v w' ⟨γ', h1, h2, h3⟩ => next γ' v w' h1 h2 h3
        exact .inl hdo.wp
      · rw [if_neg hwg] at hd ⊢
        exact next γ _ _ (fun _ _ => rfl) hd.1 hd.2
  refine key _ γ0 _ _ _ (by simp) (left_le _) St.start' (fun i j h => by rw [lis_none] at h; cases h) ?_
  have e : lis (Array.replicate l.toArray.size false) = fun _ => false := funext fun j => lis_none _ j
  rw [e]; exact h0
end
end Go.Proofs.YtlghkdkaifcliaaDoor
namespace Go.Proofs.YtlghkdkaifcliaaDoor
open Go.RowKit Gf
set_option maxRecDepth 100000
theorem ret_int {k : IntKind} {a b : Int} (h : a = b) : Ending.returned (.int k a) = .returned (.int k b) := by rw [h]

theorem set_same {W : World} {a : Addr} {v u : Value} (h : W.cell? a = some u) : (W.setCell a v).cell? a = some v := World.cell?_setCell_same _ _ _ h
theorem set_other {W : World} {b i j : Nat} {v : Value} (h : i ≠ j) : (W.setCell ⟨b, i, none⟩ v).cell? ⟨b, j, none⟩ = W.cell? ⟨b, j, none⟩ :=
  World.cell?_setCell_other _ _ _ _ (by intro e; exact h (congrArg Addr.off e))
theorem bcell {W w1 : World} (hb : Below W.heap.size W w1) : ∀ b o, b < W.heap.size → w1.cell? ⟨b, o, none⟩ = W.cell? ⟨b, o, none⟩ :=
  fun b o h => hb.cell (p := ⟨b, o, none⟩) h
theorem quiet_eq {P : Program} {f : FuncId} {args : Array Value} {w : World} {n : Nat} {v u : Value} (hv : v = u)
    (h : Calls P f args (w.drewN n) fun e w' => e = .returned v ∧ w.drewN n = w') : Calls P f args (w.drewN n) fun e w' => e = .returned u ∧ ∃ m, w' = w.drewN m :=
  h.mono fun _ _ h => ⟨by rw [h.1, hv], n, h.2.symm⟩
theorem vint {k : IntKind} {a b : Int} (h : a = b) : Value.int k a = .int k b := by rw [h]
/-- Nothing that was there in w0 has turned. -/
def Keeps (w0 w : World) : Prop := Below w0.heap.size w0 w
theorem Keeps.refl (w : World) : Keeps w w := Below.refl _ _
theorem Keeps.alloc {w0 w : World} (h : Keeps w0 w) (o : Obj) : Keeps w0 (w.alloc o) := Below.alloc h (Below.size h) o
theorem Keeps.trans {w0 w w' : World} (h : Keeps w0 w) (k : Below w.heap.size w w') : Keeps w0 w' := Below.trans h (k.mono (Below.size h))
/-- A text's bytes; and the text of bytes. -/
def ls (s : ByteArray) : List UInt8 := s.data.toList
def st (l : List UInt8) : ByteArray := ⟨l.toArray⟩
theorem ls_st (l : List UInt8) : ls (st l) = l := rfl
theorem st_ls (s : ByteArray) : st (ls s) = s := by cases s; simp [st, ls]
theorem ls_size (s : ByteArray) : s.size = (ls s).length := Array.length_toList.symm
theorem st_size (l : List UInt8) : (st l).size = l.length := by simp [st, ByteArray.size]
theorem st_toList (l : List UInt8) : (st l).toList = l := ByteArray.toList_mk l
theorem ls_toList (s : ByteArray) : s.toList = ls s := by rw [← st_ls s, st_toList, ls_st]
theorem ls_get (s : ByteArray) (k : Nat) (h : k < s.size) : s[k] = cf (ls s) k := by
  rw [cf_lt (by rw [← ls_size]; exact h)]; rfl
/-- A byte as Go's number. -/
def B (x : UInt8) : Value := .int .u8 (x.toNat : Int)
theorem u8_bd (a : UInt8) : 0 ≤ (a.toNat : Int) ∧ (a.toNat : Int) ≤ 255 := by have := a.toNat_lt; omega
/-- The slice v is a row of the call's own (from block 'base' on) that holds the bytes l. -/
def Own (w : World) (base : Nat) (v : Value) (l : List UInt8) : Prop := w.ownsRow base 5 1 v l.length (l.map B)
theorem Own.nil (w : World) (base : Nat) : Own w base (.slice none 0 0) [] := World.ownsRow_nil _ _ _ _
theorem info8 : (Tryd.prog.info? 5).map (fun i => (i.zero, i.size, i.bytes)) = some (some (.int .u8 0), 1, 1) := by kernel_rfl
/-- string(v), v such a row. -/
theorem Own.text {w : World} {base : Nat} {v : Value} {l : List UInt8} (h : Own w base v l) :
    (convert 74 9 v).run Tryd.prog w = .ok (.string (st l)) w := by
  obtain ⟨hl, h⟩ := h
  rcases h with ⟨rfl, h0⟩ | ⟨g, cap, cur, rfl, hb, hh, hn, hc, hsz, htake⟩
  · have : l = [] := List.length_eq_zero_iff.1 h0
    subst this
    rw [run_convert_bytes_string w _ _ _ _ _ _ Tryd.underlying74 Tryd.underlying5 Tryd.underlying9]
    rfl
  · have e := run_convert_bytes_arg (P := Tryd.prog) w 74 5 Tryd.underlying74 Tryd.underlying5 g 0 l.length cap (l.map fun x => (x.toNat : Int)) (by simp) (fun i hi => by
      have h1 : cur.toList[i]? = some (B (cf l i)) := by
        have h2 : (cur.toList.take (l.length * 1))[i]? = (l.map B)[i]? := by rw [htake]
        rw [List.getElem?_take_of_lt (by omega)] at h2
        rw [h2, List.getElem?_map, List.getElem?_eq_getElem hi, cf_lt hi]; rfl
      have h3 : cur[i]? = some (B (cf l i)) := by rw [← Array.getElem?_toList]; exact h1
      show w.cell? ⟨g, 0 + i, none⟩ = _
      rw [Nat.zero_add]
      have h4 : w.cell? ⟨g, i, none⟩ = cur[i]? := by simp [World.cell?, hh]
      rw [h4, h3, List.getD_eq_getElem?_getD, List.getElem?_map, List.getElem?_eq_getElem hi, cf_lt hi]; rfl) 9 Tryd.underlying9
    rw [e]
    have hs : strOfNums (l.map fun x => (x.toNat : Int)) = st l := by
      simp only [strOfNums, st, List.map_map]
      congr 2
      have : ((fun n : Int => UInt8.ofNat n.toNat) ∘ fun x : UInt8 => (x.toNat : Int)) = id := by
        funext x; simp
      rw [this, List.map_id]
    rw [hs]
theorem Own.block {w : World} {base : Nat} {v : Value} {l : List UInt8} (h : Own w base v l) : ∀ k, v.ownBlock = some k → base ≤ k := by
  intro k hk
  obtain ⟨_, h⟩ := h
  rcases h with ⟨rfl, _⟩ | ⟨g, cap, cur, rfl, hb, _⟩
  · simp [Value.ownBlock] at hk
  · simp [Value.ownBlock] at hk; omega
/-- What is owned stays owned where everything that was there stays. -/
theorem Own.kept {w0 wr w1 : World} {v : Value} {l : List UInt8} (h : Own wr w0.heap.size v l) (_hk : Keeps w0 wr) (k : Keeps wr w1) : Own w1 w0.heap.size v l := by
  obtain ⟨hl, h⟩ := h
  refine ⟨hl, ?_⟩
  rcases h with h | ⟨g, cap, cur, hv, hb, hh, hn, hc, hsz, ht⟩
  · exact Or.inl h
  · have hg : g < wr.heap.size := (Array.getElem?_eq_some_iff.1 hh).1
    exact Or.inr ⟨g, cap, cur, hv, hb, (Below.block k g hg).trans hh, hn, hc, hsz, ht⟩
/-- 'v = append(v, y)', v a row of the call's own (of what was made since w0). -/
theorem wp_push8 {ops : Array Oper} {rest : List Oper} {o : Oper} {a : Act} {Q : Exit → Act → World → Prop} {wr : World} (hgd : o.guard = none) (s x : Operand)
    (ho : o.op = .call { callee := .builtin .append, args := #[s, x], argTypes := #[74, 74] }) {w0 : World} {v : Value} {l : List UInt8} (y : UInt8) (hown : Own wr w0.heap.size v l)
    (hs : a.eval s = v) (hx : a.eval x = .slice (some ⟨wr.heap.size, 0, none⟩) 1 1) (hl : l.length ≤ 1000000000) (hk : Keeps w0 wr)
    (h : ∀ v' w', Own w' w0.heap.size v' (l ++ [y]) → Keeps w0 w' → wpList Tryd.prog ops Q rest (a.put o.dst v') w') :
    wpList Tryd.prog ops Q (o :: rest) a (wr.alloc (.cells #[.int .u8 (y.toNat : Int)] 5)) := by
  obtain ⟨i0, hi, hz0, hz1, hz2⟩ := info_parts info8
  have hsz := Below.size hk
  have hown0 : wr.ownsRow w0.heap.size 5 1 v l.length (l.map B) := hown
  refine wpList_append_own _ hgd s x 74 ho w0.heap.size 5 i0 (.int .u8 0) 1 1 Tryd.underlying74 hi hz0 hz1 hz2 rfl (by decide) v l.length (l.map B) hs (hown0.alloc _)
    ⟨wr.heap.size, 0, none⟩ 1 1 [B y] hx rfl ?_ ?_ ?_ ?_ ?_ ?_
  · intro j u hj
    match j, hj with
    | 0, hj => simp at hj; subst hj; simp [Addr.add, B]
  · intro u hu; simp at hu; subst hu; rfl
  · unfold maxLen; omega
  · omega
  · simp; omega
  · intro v' w' h1 h2 _
    refine h v' w' ?_ ?_
    · unfold Own; rw [List.length_append, List.map_append]; exact h1
    · exact Below.grown (Below.alloc hk hsz _) h2 (by simp; omega) hown.block
/-- n bytes 0. -/
def z8 (n : Nat) : List UInt8 := List.replicate n 0
/-- n zero bytes in new memory. -/
def zr (n : Nat) : Array Value := madeCells #[.int .u8 0] n
theorem zr_toList (n : Nat) : (zr n).toList = (z8 n).map B := by
  unfold zr z8; rw [toList_madeCells_one, List.map_replicate]; rfl
theorem make8 (n : Nat) (h : n ≤ 1000000) (w : World) :
    (Instr.makeSlice 74 (.int .i64 (n : Int)) (.int .i64 (n : Int))).run Tryd.prog w = .ok (.slice (some ⟨w.heap.size, 0, none⟩) n n) (w.alloc (.cells (zr n) 5)) := by
  obtain ⟨i0, hi, hz0, hz1, hz2⟩ := info_parts info8
  have hr := run_make (P := Tryd.prog) w 74 5 i0 (.int .u8 0) Tryd.underlying74 hi hz0 .i64 .i64 n n (by omega) (Int.le_refl _) (by rw [hz2]; omega) (by omega)
  simp only [Int.toNat_natCast, hz1, Nat.mul_one] at hr
  exact hr
theorem own_zr (w : World) (n : Nat) (h : n ≤ 1000000) : Own (w.alloc (.cells (zr n) 5)) w.heap.size (.slice (some ⟨w.heap.size, 0, none⟩) n n) (z8 n) := by
  unfold Own
  rw [show (z8 n).length = n from List.length_replicate, ← zr_toList]
  exact World.ownsRow_lit w _ n (Nat.le_refl _) (by unfold maxLen; omega) (by unfold zr; rw [size_madeCells, Nat.mul_one])
theorem text_zr (w : World) (n : Nat) (h : n ≤ 1000000) :
    (convert 74 9 (.slice (some ⟨w.heap.size, 0, none⟩) n n)).run Tryd.prog (w.alloc (.cells (zr n) 5)) = .ok (.string (st (z8 n))) (w.alloc (.cells (zr n) 5)) := (own_zr w n h).text
/-- Nothing that was there in w has turned but block b. -/
structure Only (b : Nat) (w w' : World) : Prop where
  os : w'.os = w.os
  tape : w'.tape = w.tape
  output : w'.output = w.output
  size : w.heap.size ≤ w'.heap.size
  block : ∀ k, k < w.heap.size → k ≠ b → w'.heap[k]? = w.heap[k]?
theorem Only.refl (b : Nat) (w : World) : Only b w w := ⟨rfl, rfl, rfl, Nat.le_refl _, fun _ _ _ => rfl⟩
theorem Only.trans {b : Nat} {w w' w'' : World} (h : Only b w w') (k : Only b w' w'') : Only b w w'' :=
  ⟨k.os.trans h.os, k.tape.trans h.tape, k.output.trans h.output, Nat.le_trans h.size k.size, fun i hi hn => (k.block i (Nat.lt_of_lt_of_le hi h.size) hn).trans (h.block i hi hn)⟩
theorem Only.eqv {b : Nat} {w w' : World} (h : Eqv w w') : Only b w w' := ⟨h.os, h.tape, h.output, by rw [h.heap]; exact Nat.le_refl _, fun _ _ _ => by rw [h.heap]⟩
theorem Only.alloc (b : Nat) (w : World) (o : Obj) : Only b w (w.alloc o) := ⟨rfl, rfl, rfl, by simp, fun k hk _ => Below.heap_alloc w o k hk⟩
theorem Only.setCell (w : World) (p : Addr) (v : Value) : Only p.block w (w.setCell p v) :=
  ⟨rfl, rfl, rfl, by simp [World.setCell], fun k _ hn => Below.heap_setCell w p v k hn⟩
theorem Only.below {b : Nat} {w w' : World} (h : Below w.heap.size w w') : Only b w w' := ⟨h.os, h.tape, h.output, h.size, fun k hk _ => h.block k hk⟩
theorem Only.keeps {b : Nat} {w0 w w' : World} (h : Only b w w') (hk : Keeps w0 w) (hb : w0.heap.size ≤ b) : Keeps w0 w' :=
  Below.trans hk ⟨h.os, h.tape, h.output, h.size, fun k hlt => h.block k (Nat.lt_of_lt_of_le hlt (Below.size hk)) (by omega)⟩
theorem Only.cell {b : Nat} {w w' : World} (h : Only b w w') {p : Addr} (hp : p.block < w.heap.size) (hn : p.block ≠ b) : w'.cell? p = w.cell? p := World.cell?_of_block (w := w) (h.block p.block hp hn)
theorem Only.frozen {b : Nat} {w w' : World} (h : Only b w w') {p : Addr} (hp : p.block < w.heap.size) (hn : p.block ≠ b) : w'.frozen? p = w.frozen? p := World.frozen?_of_block (w := w) (h.block p.block hp hn)
/-- Block b begins with the bytes l, and they may be written. -/
structure Blk (b : Nat) (l : List UInt8) (w : World) : Prop where
  old : b < w.heap.size
  cell : ∀ i, i < l.length → w.cell? ⟨b, i, none⟩ = some (.int .u8 ((cf l i).toNat : Int))
  free : ∀ i, i < l.length → w.frozen? ⟨b, i, none⟩ = false
theorem Blk.only {b c : Nat} {l : List UInt8} {w w' : World} (h : Blk b l w) (hn : b ≠ c) (k : Only c w w') : Blk b l w' :=
  ⟨Nat.lt_of_lt_of_le h.old k.size, fun i hi => (k.cell (p := ⟨b, i, none⟩) h.old hn).trans (h.cell i hi), fun i hi => (k.frozen (p := ⟨b, i, none⟩) h.old hn).trans (h.free i hi)⟩
theorem Blk.eqv {b : Nat} {l : List UInt8} {w w' : World} (h : Blk b l w) (k : Eqv w w') : Blk b l w' :=
  ⟨by rw [k.size]; exact h.old, fun i hi => (k.cell _).trans (h.cell i hi), fun i hi => (k.frozen _).trans (h.free i hi)⟩
theorem Blk.below {b : Nat} {l : List UInt8} {w w' : World} (h : Blk b l w) (k : Below w.heap.size w w') : Blk b l w' :=
  ⟨Nat.lt_of_lt_of_le h.old k.size, fun i hi => (k.cell (p := ⟨b, i, none⟩) h.old).trans (h.cell i hi), fun i hi => (k.frozen (p := ⟨b, i, none⟩) h.old).trans (h.free i hi)⟩
theorem cf_set (l : List UInt8) (k : Nat) (y : UInt8) (hk : k < l.length) (i : Nat) : cf (l.set k y) i = if i = k then y else cf l i := by
  unfold cf
  rw [List.getD_eq_getElem?_getD, List.getD_eq_getElem?_getD, List.getElem?_set]
  by_cases h : k = i
  · subst h; simp [hk]
  · have : ¬ i = k := fun e => h e.symm
    simp [h, this]
theorem Blk.set {b : Nat} {l : List UInt8} {w : World} (h : Blk b l w) {k : Nat} (hk : k < l.length) (y : UInt8) : Blk b (l.set k y) (w.setCell ⟨b, k, none⟩ (.int .u8 (y.toNat : Int))) := by
  refine ⟨by simpa [World.setCell] using h.old, fun i hi => ?_, fun i hi => ?_⟩
  · rw [List.length_set] at hi
    rw [cf_set l k y hk]
    by_cases e : i = k
    · subst e; rw [if_pos rfl]; exact World.cell?_setCell_same _ _ _ (h.cell i hi)
    · rw [if_neg e, World.cell?_setCell_other _ _ _ _ (by intro x; exact e (congrArg Addr.off x).symm)]; exact h.cell i hi
  · rw [List.length_set] at hi
    simp [h.free i hi]
theorem list_ext_cf {p q : List UInt8} (hl : p.length = q.length) (h : ∀ i, i < p.length → cf p i = cf q i) : p = q :=
  List.ext_getElem hl fun i h1 h2 => by rw [← cf_lt h1, ← cf_lt h2]; exact h i h1
theorem Blk.make (w : World) (n : Nat) : Blk w.heap.size (z8 n) (w.alloc (.cells (zr n) 5)) := by
  have hz : (z8 n).length = n := List.length_replicate
  refine ⟨by simp, fun i hi => ?_, fun i _ => World.frozen?_alloc_new _ _ _ _⟩
  rw [World.cell?_alloc_new]
  have h1 : (zr n).toList[i]? = ((z8 n).map B)[i]? := by rw [zr_toList]
  rw [Array.getElem?_toList] at h1
  rw [h1, List.getElem?_map, List.getElem?_eq_getElem hi, cf_lt hi]; rfl
theorem Blk.text {b : Nat} {l : List UInt8} {w : World} (h : Blk b l w) (len cap : Nat) (hl : len ≤ l.length) :
    (convert 74 9 (.slice (some ⟨b, 0, none⟩) len cap)).run Tryd.prog w = .ok (.string (st (l.take len))) w := by
  have e := run_convert_bytes_arg (P := Tryd.prog) w 74 5 Tryd.underlying74 Tryd.underlying5 b 0 len cap ((l.take len).map fun x => (x.toNat : Int)) (by simp; omega) (fun i hi => by
      show w.cell? ⟨b, 0 + i, none⟩ = _
      rw [Nat.zero_add, h.cell i (by omega), List.getD_eq_getElem?_getD, List.getElem?_map, List.getElem?_take_of_lt hi, List.getElem?_eq_getElem (by omega), cf_lt (by omega)]; rfl) 9 Tryd.underlying9
  rw [e]
  have hs : strOfNums ((l.take len).map fun x => (x.toNat : Int)) = st (l.take len) := by
    simp only [strOfNums, st, List.map_map]
    congr 2
    have : ((fun n : Int => UInt8.ofNat n.toNat) ∘ fun x : UInt8 => (x.toNat : Int)) = id := by
      funext x; simp
    rw [this, List.map_id]
  rw [hs]
theorem Blk.whole {b : Nat} {l : List UInt8} {w : World} (h : Blk b l w) (cap : Nat) {n : Nat} (hn : n = l.length) :
    (convert 74 9 (.slice (some ⟨b, 0, none⟩) n cap)).run Tryd.prog w = .ok (.string (st l)) w := by
  subst hn
  have := h.text l.length cap (Nat.le_refl _)
  rwa [List.take_length] at this
/-- A row of the call's own that lies in block g. -/
def Rw (w : World) (base g cap : Nat) (l : List UInt8) : Prop := base ≤ g ∧ l.length ≤ cap ∧ cap ≤ maxLen ∧ ∃ cur : Array Value, w.heap[g]? = some (.cells cur 5 (0, 0)) ∧ cur.size = cap ∧ cur.toList.take l.length = l.map B
theorem Rw.own {w : World} {base g cap : Nat} {l : List UInt8} (h : Rw w base g cap l) : Own w base (.slice (some ⟨g, 0, none⟩) l.length cap) l := by
  obtain ⟨h1, h2, h3, cur, h4, h5, h6⟩ := h
  exact ⟨by simp, .inr ⟨g, cap, cur, rfl, h1, h4, h2, h3, by rw [h5, Nat.mul_one], by rw [Nat.mul_one]; exact h6⟩⟩
theorem Rw.of {w : World} {base : Nat} {v : Value} {l : List UInt8} (h : Own w base v l) (hl : l ≠ []) : ∃ g cap, v = .slice (some ⟨g, 0, none⟩) l.length cap ∧ v.ownBlock = some g ∧ Rw w base g cap l := by
  obtain ⟨_, h⟩ := h
  rcases h with ⟨_, h0⟩ | ⟨g, cap, cur, rfl, h1, h4, h2, h3, h5, h6⟩
  · exact absurd (List.length_eq_zero_iff.1 h0) hl
  · exact ⟨g, cap, rfl, rfl, h1, h2, h3, cur, h4, by rw [h5, Nat.mul_one], by rw [Nat.mul_one] at h6; exact h6⟩
theorem Rw.blk {w : World} {base g cap : Nat} {l : List UInt8} (h : Rw w base g cap l) : Blk g l w := by
  obtain ⟨h1, h2, h3, cur, h4, h5, h6⟩ := h
  refine ⟨(Array.getElem?_eq_some_iff.1 h4).1, fun i hi => ?_, fun i hi => ?_⟩
  · have e : cur.toList[i]? = some (B (cf l i)) := by
      have e2 : (cur.toList.take l.length)[i]? = (l.map B)[i]? := by rw [h6]
      rw [List.getElem?_take_of_lt hi] at e2
      rw [e2, List.getElem?_map, List.getElem?_eq_getElem hi, cf_lt hi]; rfl
    have e3 : w.cell? ⟨g, i, none⟩ = cur[i]? := by simp [World.cell?, h4]
    rw [e3, ← Array.getElem?_toList, e]; rfl
  · simp [World.frozen?, h4]
theorem Rw.block {w w' : World} {base g cap : Nat} {l : List UInt8} (h : Rw w base g cap l) (e : w'.heap[g]? = w.heap[g]?) : Rw w' base g cap l := by
  obtain ⟨h1, h2, h3, cur, h4, h5, h6⟩ := h
  exact ⟨h1, h2, h3, cur, e.trans h4, h5, h6⟩
theorem Rw.only {w w' : World} {base g cap b : Nat} {l : List UInt8} (h : Rw w base g cap l) (hn : g ≠ b) (k : Only b w w') : Rw w' base g cap l := h.block (k.block g h.blk.old hn)
theorem Rw.eqv {w w' : World} {base g cap : Nat} {l : List UInt8} (h : Rw w base g cap l) (k : Eqv w w') : Rw w' base g cap l := h.block (by rw [k.heap])
theorem Rw.grown {w w' : World} {row : Option Nat} {base g cap : Nat} {l : List UInt8} (h : Rw w base g cap l) (hg : w.grownBy w' row) (hr : ∀ r, row = some r → ∃ o : Obj, w.heap[r]? = some o ∧ o.isCells = false) : Rw w' base g cap l := by
  refine h.block (hg.block g h.blk.old fun e => ?_)
  obtain ⟨o, ho, hc⟩ := hr g e.symm
  obtain ⟨_, _, _, cur, h4, _⟩ := h
  rw [h4] at ho; cases ho; cases hc
theorem Rw.set {w : World} {base g cap : Nat} {l : List UInt8} (h : Rw w base g cap l) {i : Nat} (_hi : i < l.length) (y : UInt8) : Rw (w.setCell ⟨g, i, none⟩ (.int .u8 (y.toNat : Int))) base g cap (l.set i y) := by
  obtain ⟨h1, h2, h3, cur, h4, h5, h6⟩ := h
  refine ⟨h1, by rw [List.length_set]; exact h2, h3, cur.setIfInBounds i (B y), ?_, by rw [Array.size_setIfInBounds]; exact h5, ?_⟩
  · have hg := (Array.getElem?_eq_some_iff.1 h4).1
    simp [World.setCell, Array.getElem?_modify, h4, B]
  · rw [List.length_set, Array.toList_setIfInBounds, List.take_set, h6, List.map_set]
/-- 'v = append(v, y)', v a row of the call's own: and nothing else turns. -/
theorem wp_push8g {ops : Array Oper} {rest : List Oper} {o : Oper} {a : Act} {Q : Exit → Act → World → Prop} {wr : World} (hgd : o.guard = none) (s x : Operand)
    (ho : o.op = .call { callee := .builtin .append, args := #[s, x], argTypes := #[74, 74] }) {base : Nat} {v : Value} {l : List UInt8} (y : UInt8) {yv : Value} (hyv : yv = B y) (H : Nat) (hH : wr.heap.size = H) (hown : Own wr base v l)
    (hs : a.eval s = v) (hx : a.eval x = .slice (some ⟨H, 0, none⟩) 1 1) (hl : l.length ≤ 1000000000) (hb : base ≤ wr.heap.size)
    (h : ∀ v' w', Own w' base v' (l ++ [y]) → (wr.alloc (.cells #[yv] 5)).grownBy w' v.ownBlock → (v'.ownBlock = v.ownBlock ∨ v'.ownBlock = some (H + 1)) → wpList Tryd.prog ops Q rest (a.put o.dst v') w') :
    wpList Tryd.prog ops Q (o :: rest) a (wr.alloc (.cells #[yv] 5)) := by
  subst hH
  subst hyv
  obtain ⟨i0, hi, hz0, hz1, hz2⟩ := info_parts info8
  have hown0 : wr.ownsRow base 5 1 v l.length (l.map B) := hown
  refine wpList_append_own_at _ hgd s x 74 ho base 5 i0 (.int .u8 0) 1 1 Tryd.underlying74 hi hz0 hz1 hz2 rfl (by decide) v l.length (l.map B) hs (hown0.alloc _)
    ⟨wr.heap.size, 0, none⟩ 1 1 [B y] hx rfl ?_ ?_ ?_ ?_ ?_ ?_
  · intro j u hj
    match j, hj with
    | 0, hj => simp at hj; subst hj; simp [Addr.add, B]
  · intro u hu; simp at hu; subst hu; rfl
  · unfold maxLen; omega
  · omega
  · simp; omega
  · intro v' w' h1 h2 _ h4
    refine h v' w' ?_ h2 ?_
    · unfold Own; rw [List.length_append, List.map_append]; exact h1
    · rwa [World.size_alloc] at h4
theorem Only.grown {g : Nat} {A B : World} {row : Option Nat} (h : A.grownBy B row) (hr : row = some g) : Only g A B :=
  ⟨h.os, h.tape, h.output, h.size, fun k hk hn => h.block k hk (by rw [hr]; intro e; exact hn (Option.some.inj e))⟩
/-- A row that is not the one that grows stays. -/
theorem Own.stays {A B : World} {row : Option Nat} {base : Nat} {v : Value} {l : List UInt8} (h : Own A base v l) (hg : A.grownBy B row) (hn : ∀ b, row = some b → v.ownBlock ≠ some b) : Own B base v l := by
  obtain ⟨hl, h⟩ := h
  refine ⟨hl, ?_⟩
  rcases h with h | ⟨g, cap, cur, hv, hb, hh, h5⟩
  · exact .inl h
  · refine .inr ⟨g, cap, cur, hv, hb, (hg.block g (Array.getElem?_eq_some_iff.1 hh).1 fun e => ?_).trans hh, h5⟩
    exact hn g e.symm (by rw [hv]; rfl)
theorem Own.alloc {w : World} {base : Nat} {v : Value} {l : List UInt8} (h : Own w base v l) (o : Obj) : Own (w.alloc o) base v l := World.ownsRow.alloc (w := w) h o
theorem Own.old {w : World} {base : Nat} {v : Value} {l : List UInt8} (h : Own w base v l) {b : Nat} (hb : v.ownBlock = some b) : b < w.heap.size := by
  obtain ⟨_, h⟩ := h
  rcases h with ⟨rfl, _⟩ | ⟨g, cap, cur, rfl, _, hh, _⟩
  · cases hb
  · cases hb; exact (Array.getElem?_eq_some_iff.1 hh).1
theorem Own.eqv {w w' : World} {base : Nat} {v : Value} {l : List UInt8} (h : Own w base v l) (e : Eqv w w') : Own w' base v l := by
  obtain ⟨hl, h⟩ := h
  refine ⟨hl, ?_⟩
  rcases h with h | ⟨g, cap, cur, hv, hb, hh, h5⟩
  · exact .inl h
  · exact .inr ⟨g, cap, cur, hv, hb, by rw [e.heap]; exact hh, h5⟩
/-- A world that is another one and a new block is made so. -/
theorem Eqv.split {w w' : World} {o : Obj} (h : Eqv (w.alloc o) w') : ∃ u, w' = u.alloc o ∧ Eqv w u := by
  refine ⟨{ w' with heap := w.heap }, ?_, ⟨h.os, h.tape, h.output, rfl⟩⟩
  have e : w'.heap = w.heap.push o := h.heap
  cases w'
  simp only at e
  subst e
  rfl
theorem Keeps.eqv {w0 w w' : World} (h : Keeps w0 w) (e : Eqv w w') : Keeps w0 w' := h.trans ⟨e.os, e.tape, e.output, by rw [e.heap]; exact Nat.le_refl _, fun _ _ => by rw [e.heap]⟩
theorem Keeps.grown {w0 w w' : World} {row : Option Nat} (h : Keeps w0 w) (hg : w.grownBy w' row) (hr : ∀ k, row = some k → w0.heap.size ≤ k) : Keeps w0 w' := Below.grown h hg (Below.size h) hr
theorem u8_of {n : Int} (h : 0 ≤ n ∧ n ≤ 255) : ∃ x : UInt8, n = (x.toNat : Int) :=
  ⟨UInt8.ofNat n.toNat, by rw [UInt8.toNat_ofNat_of_lt' (show n.toNat < 256 by omega)]; omega⟩
theorem Blk.bytes (w : World) (s : ByteArray) : Blk w.heap.size (ls s) (Lib.bytesWorld w 5 s) := by
  refine ⟨by rw [Lib.bytesWorld_size]; omega, fun i hi => ?_, fun i hi => ?_⟩
  · rw [← ls_size] at hi; exact Lib.bytesWorld_cell w _ s i hi
  · rw [← ls_size] at hi
    have hg := Lib.bytesWorld_at_new w 5 s
    have hs : s.size ≤ (Lib.bytesCells w 5 s).size := by
      unfold Lib.bytesCells; rw [Array.size_append, Array.size_map]; exact Nat.le_add_right _ _
    simp [World.frozen?, hg]
    omega
theorem only_setCells (b : Nat) : ∀ (vs : List Value) (o : Nat) (w : World), Only b w (w.setCells b o vs)
  | [], _, w => Only.refl b w
  | v :: r, o, w => (Only.setCell w ⟨b, o, none⟩ v).trans (only_setCells b r (o + 1) _)
theorem results_cell {fn : Func} {p : Tmp} {ty : TypeId} (h : fn.results = #[.cell p ty]) (tmps : Array Value) (P : Program) (w : World) :
    (results fn tmps).run P w = ((asAddr (tmps.getD p undef)).run P w).andThen fun a w₁ => (loadVar ty a).run P w₁ := by
  simp only [results, h]
  simp [Sem.run_bind, Result.andThen]
theorem Eqv.drewN (w : World) (n : Nat) : Eqv w (w.drewN n) := ⟨rfl, rfl, rfl, rfl⟩
theorem Blk.lit (w : World) (l : List UInt8) (t : TypeId) : Blk w.heap.size l (w.alloc (.cells (l.map B).toArray t)) := by
  refine ⟨by simp, fun i hi => ?_, fun i _ => World.frozen?_alloc_new _ _ _ _⟩
  rw [World.cell?_alloc_new, List.getElem?_toArray, List.getElem?_map, List.getElem?_eq_getElem hi, cf_lt hi]; rfl
theorem st_append (a b : List UInt8) : st a ++ st b = st (a ++ b) := by
  apply ByteArray.ext
  rw [ByteArray.data_append]
  simp [st]
theorem ls_append (a b : ByteArray) : ls (a ++ b) = ls a ++ ls b := by
  unfold ls; rw [ByteArray.data_append, Array.toList_append]
theorem ls_part (s : ByteArray) (i j : Nat) : ls (s.extract i j) = ((ls s).drop i).take (j - i) := by
  unfold ls
  rw [ByteArray.data_extract, Array.toList_extract, List.extract_eq_take_drop]
theorem cell_new1 (W : World) (v : Value) (t : TypeId) : (W.alloc (.cells #[v] t)).cell? ⟨W.heap.size, 0, none⟩ = some v ∧ (W.alloc (.cells #[v] t)).frozen? ⟨W.heap.size, 0, none⟩ = false :=
  ⟨by rw [World.cell?_alloc_new]; rfl, World.frozen?_alloc_new _ _ _ _⟩
theorem cell_alloc1 {W : World} {a : Addr} {v : Value} (o : Obj) (h : W.cell? a = some v) : (W.alloc o).cell? a = some v := cell_kept h (World.grownBy_alloc W o none) (fun r e => by cases e)
theorem frozen_alloc1 {W : World} {a : Addr} {v : Value} (o : Obj) (h : W.cell? a = some v) (hf : W.frozen? a = false) : (W.alloc o).frozen? a = false := (frozen_kept h (World.grownBy_alloc W o none) (fun r e => by cases e)).trans hf
/-- The slice (a, len) reads as the texts l. -/
def IsT (W : World) (a : Option Addr) (len : Nat) (l : List (List UInt8)) : Prop :=
  len = l.length ∧ (0 < l.length → ∃ b off, a = some ⟨b, off, none⟩ ∧ b < W.heap.size ∧ ∀ i, i < l.length → W.cell? ⟨b, off + i, none⟩ = some (.string (st (l.getD i []))))
theorem IsT.below {W W' : World} {a : Option Addr} {len : Nat} {l : List (List UInt8)} (h : IsT W a len l) (k : Below W.heap.size W W') : IsT W' a len l :=
  ⟨h.1, fun h0 => by obtain ⟨b, off, ha, hb, hc⟩ := h.2 h0; exact ⟨b, off, ha, Nat.lt_of_lt_of_le hb k.size, fun i hi => (k.cell (p := ⟨b, off + i, none⟩) hb).trans (hc i hi)⟩⟩
theorem IsT.keeps {w0 W' : World} {a : Option Addr} {len : Nat} {l : List (List UInt8)} (h : IsT w0 a len l) (k : Keeps w0 W') : IsT W' a len l := h.below k
theorem IsT.nil (W : World) (a : Option Addr) : IsT W a 0 [] := ⟨rfl, fun h => by simp at h⟩
theorem IsT.one (w : World) (s : ByteArray) (t : TypeId) : IsT (w.alloc (.cells #[.string s] t)) (some ⟨w.heap.size, 0, none⟩) 1 [ls s] :=
  ⟨rfl, fun _ => ⟨_, _, rfl, by simp, fun i hi => by
    have : i = 0 := by simpa using hi
    subst this; rw [World.cell?_alloc_new, List.getD_cons_zero, st_ls]; rfl⟩⟩
theorem IsT.two (w : World) (s t : ByteArray) (ty : TypeId) : IsT (w.alloc (.cells #[.string s, .string t] ty)) (some ⟨w.heap.size, 0, none⟩) 2 [ls s, ls t] :=
  ⟨rfl, fun _ => ⟨_, _, rfl, by simp, fun i hi => by
    have : i = 0 ∨ i = 1 := by simp at hi; omega
    rcases this with rfl | rfl
    · rw [World.cell?_alloc_new, List.getD_cons_zero, st_ls]; rfl
    · rw [World.cell?_alloc_new, List.getD_cons_succ, List.getD_cons_zero, st_ls]; rfl⟩⟩
theorem IsT.get {W : World} {a : Option Addr} {len : Nat} {l : List (List UInt8)} (h : IsT W a len l) {k : Nat} (hk : k < l.length) : ∃ b off, a = some ⟨b, off, none⟩ ∧ W.cell? ⟨b, off + k, none⟩ = some (.string (st (l.getD k []))) := by
  obtain ⟨b, off, ha, _, hc⟩ := h.2 (by omega)
  exact ⟨b, off, ha, hc k hk⟩
end Go.Proofs.YtlghkdkaifcliaaDoor
namespace Go.Proofs.YtlghkdkaifcliaaDoor
open Go.RowKit
set_option maxRecDepth 100000
theorem scope_loop {P : Program} {a : Act} {w : World} {Q : Exit → Act → World → Prop} {c rest : Code} (l : Nat) (J : Act → World → Prop) (μ : Act → World → Nat) (hf : findLabel c l = some (Code.skip.seq rest))
    (pass : ∀ a w, J a w → rest.wp P (Exit.jump l (fun a' w' => J a' w' ∧ μ a' w' < μ a w) Q) a w)
    (first : (∀ a w, J a w → rest.wp P (Exit.jump l J Q) a w) → c.wp P (Exit.jump l J Q) a w) : (Code.scope c).wp P Q a w :=
  wp_scope_jumps l J μ hf (first fun a w h => Code.wp_mono (fun e a' w' k => by
    cases e <;> first | exact k | exact ⟨k.1, k.2.1⟩) (pass a w h)) (fun a w h => wp_seq (wp_skip (pass a w h)))
theorem list_eta (l : List Value) : l = (List.range l.length).map (fun i => l.getD i undef) := by
  refine List.ext_getElem (by simp) fun i h1 h2 => ?_
  simp [List.getElem?_eq_getElem h1]
/-- The slots behind those that are known. -/
def tailF (us : Nat → Value) : Nat → Nat → List Value
  | _, 0 => []
  | k, n + 1 => us k :: tailF us (k + 1) n
theorem tailF_length (us : Nat → Value) : ∀ (n k : Nat), (tailF us k n).length = n
  | 0, _ => rfl
  | n + 1, k => by simp [tailF, tailF_length us n (k + 1)]
theorem tailF_of (r : List Value) : ∀ (n k : Nat), r.length = n → r = tailF (fun i => r.getD (i - k) undef) k n := by
  have key : ∀ (n k : Nat) (f : Nat → Value) (r : List Value), r.length = n → (∀ i, i < n → f (k + i) = r.getD i undef) → r = tailF f k n := by
    intro n
    induction n with
    | zero => intro k f r h _; exact List.length_eq_zero_iff.1 h
    | succ n ih =>
      intro k f r h hf
      cases r with
      | nil => simp at h
      | cons x r =>
        have h0 := hf 0 (by omega)
        rw [Nat.add_zero, List.getD_cons_zero] at h0
        show x :: r = f k :: tailF f (k + 1) n
        rw [h0, ← ih (k + 1) f r (by simpa using h) (fun i hi => by
          have := hf (i + 1) (by omega)
          rw [List.getD_cons_succ] at this
          rw [← this]; congr 1; omega)]
  intro n k h
  exact key n k _ r h fun i hi => by rw [Nat.add_sub_cancel_left]
/-- A frame of which the first slots are known. -/
theorem frameN {a : Act} (n : Nat) (vs : List Value) (hs : a.tmps.size = vs.length + n) (hd : a.defers = []) (ht : a.tmps.toList.take vs.length = vs) :
    ∃ us : Nat → Value, a = { tmps := List.toArray (vs ++ tailF us 0 n), defers := [] } := by
  obtain ⟨⟨l⟩, d⟩ := a
  simp only at hd ht
  subst hd
  have hl : l.length = vs.length + n := by simpa using hs
  refine ⟨fun i => (l.drop vs.length).getD (i - 0) undef, ?_⟩
  have e := tailF_of (l.drop vs.length) n 0 (by rw [List.length_drop, hl]; omega)
  rw [← e]
  congr 2
  have e2 := List.take_append_drop vs.length l
  rw [ht] at e2
  exact e2.symm
end Go.Proofs.YtlghkdkaifcliaaDoor
namespace Go.Proofs.YtlghkdkaifcliaaDoor
open Go.RowKit Gf
set_option maxRecDepth 100000
/-- What is to be known of a type of rows. -/
structure RowT (α : Type) where
  E : TypeId
  S : TypeId
  sz : Nat
  bs : Nat
  z : Value
  enc : α → List Value
  und : Tryd.prog.underlying S = some (.slice E)
  info : (Tryd.prog.info? E).map (fun i => (i.zero, i.size, i.bytes)) = some (some z, sz, bs)
  zs : z.cells.size = sz
  pos : 0 < sz
  small : bs ≤ 1000
  len : ∀ a, (enc a).length = sz
  one : ∀ a, ∀ u ∈ enc a, u.oneCell' = true
section
variable {α : Type} (T : RowT α)
/-- The cells of a row. -/
def RowT.cells (l : List α) : List Value := l.flatMap T.enc
theorem RowT.cells_length (l : List α) : (T.cells l).length = l.length * T.sz := by
  unfold RowT.cells
  induction l with
  | nil => simp
  | cons a r ih => rw [List.flatMap_cons, List.length_append, T.len, ih, List.length_cons, Nat.add_mul]; omega
theorem RowT.cells_append (l r : List α) : T.cells (l ++ r) = T.cells l ++ T.cells r := by unfold RowT.cells; rw [List.flatMap_append]
theorem RowT.cells_one (a : α) : T.cells [a] = T.enc a := by unfold RowT.cells; simp
theorem RowT.cells_get : ∀ (l : List α) (i : Nat) (h : i < l.length) (j : Nat), j < T.sz → (T.cells l)[i * T.sz + j]? = (T.enc l[i])[j]?
  | a :: r, 0, _, j, hj => by
    show (T.enc a ++ T.cells r)[0 * T.sz + j]? = _
    rw [Nat.zero_mul, Nat.zero_add, List.getElem?_append_left (by rw [T.len]; exact hj)]; rfl
  | a :: r, i + 1, h, j, hj => by
    show (T.enc a ++ T.cells r)[(i + 1) * T.sz + j]? = _
    rw [List.getElem?_append_right (by rw [T.len, Nat.add_mul]; omega), T.len, show (i + 1) * T.sz + j - T.sz = i * T.sz + j by rw [Nat.add_mul]; omega, RowT.cells_get r i (by simpa using h) j hj]; rfl
theorem RowT.cells_one' (l : List α) : ∀ u ∈ T.cells l, u.oneCell' = true := by
  intro u hu
  obtain ⟨a, _, ha⟩ := List.mem_flatMap.1 hu
  exact T.one a u ha
/-- The slice v is a row of the call's own (from block 'base' on). -/
def OwnE (w : World) (base : Nat) (v : Value) (l : List α) : Prop := w.ownsRow base T.E T.sz v l.length (T.cells l)
/-- The slice (a, len) reads as the row l. -/
def IsE (W : World) (a : Option Addr) (len : Nat) (l : List α) : Prop :=
  len = l.length ∧ (0 < l.length → ∃ b off, a = some ⟨b, off, none⟩ ∧ b < W.heap.size ∧ ∀ i u, (T.cells l)[i]? = some u → W.cell? ⟨b, off + i, none⟩ = some u)
variable {T}
theorem OwnE.nil (w : World) (base : Nat) : OwnE T w base (.slice none 0 0) [] := World.ownsRow_nil _ _ _ _
theorem OwnE.block {w : World} {base : Nat} {v : Value} {l : List α} (h : OwnE T w base v l) : ∀ k, v.ownBlock = some k → base ≤ k := by
  intro k hk
  obtain ⟨_, h⟩ := h
  rcases h with ⟨rfl, _⟩ | ⟨g, cap, cur, rfl, hb, _⟩
  · simp [Value.ownBlock] at hk
  · simp [Value.ownBlock] at hk; omega
theorem OwnE.old {w : World} {base : Nat} {v : Value} {l : List α} (h : OwnE T w base v l) {b : Nat} (hb : v.ownBlock = some b) : b < w.heap.size := by
  obtain ⟨_, h⟩ := h
  rcases h with ⟨rfl, _⟩ | ⟨g, cap, cur, rfl, _, hh, _⟩
  · cases hb
  · cases hb; exact (Array.getElem?_eq_some_iff.1 hh).1
theorem OwnE.at {w w' : World} {base : Nat} {v : Value} {l : List α} (h : OwnE T w base v l) (k : ∀ g, v.ownBlock = some g → w'.heap[g]? = w.heap[g]?) : OwnE T w' base v l := by
  obtain ⟨hl, h⟩ := h
  refine ⟨hl, ?_⟩
  rcases h with h | ⟨g, cap, cur, hv, hb, hh, h5⟩
  · exact .inl h
  · exact .inr ⟨g, cap, cur, hv, hb, (k g (by rw [hv]; rfl)).trans hh, h5⟩
theorem OwnE.keeps {w w' : World} {base : Nat} {v : Value} {l : List α} (h : OwnE T w base v l) (k : Keeps w w') : OwnE T w' base v l :=
  h.at fun g hg => Below.block k g (h.old hg)
theorem OwnE.eqv {w w' : World} {base : Nat} {v : Value} {l : List α} (h : OwnE T w base v l) (k : Eqv w w') : OwnE T w' base v l := h.at fun g _ => by rw [k.heap]
theorem OwnE.only {w w' : World} {base b : Nat} {v : Value} {l : List α} (h : OwnE T w base v l) (k : Only b w w') (hn : v.ownBlock ≠ some b) : OwnE T w' base v l :=
  h.at fun g hg => k.block g (h.old hg) fun e => hn (by rw [hg, e])
theorem OwnE.stays {w w' : World} {base : Nat} {v : Value} {l : List α} {row : Option Nat} (h : OwnE T w base v l) (k : w.grownBy w' row) (hn : ∀ b, row = some b → v.ownBlock ≠ some b) : OwnE T w' base v l :=
  h.at fun g hg => k.block g (h.old hg) fun e => hn g e.symm hg
theorem OwnE.lower {w : World} {base base' : Nat} {v : Value} {l : List α} (h : OwnE T w base v l) (hb : base' ≤ base) : OwnE T w base' v l := by
  obtain ⟨hl, h⟩ := h
  refine ⟨hl, ?_⟩
  rcases h with h | ⟨g, cap, cur, hv, hb2, h5⟩
  · exact .inl h
  · exact .inr ⟨g, cap, cur, hv, by omega, h5⟩
theorem OwnE.is {w : World} {base : Nat} {v : Value} {l : List α} (h : OwnE T w base v l) : ∃ a cap, v = .slice a l.length cap ∧ IsE T w a l.length l ∧ l.length ≤ cap := by
  obtain ⟨hl, h⟩ := h
  rcases h with ⟨rfl, h0⟩ | ⟨g, cap, cur, rfl, hb, hh, hn, hc, hsz, htake⟩
  · exact ⟨none, 0, by rw [h0], ⟨rfl, fun h => by omega⟩, by omega⟩
  · refine ⟨_, cap, rfl, ⟨rfl, fun _ => ⟨g, 0, rfl, (Array.getElem?_eq_some_iff.1 hh).1, fun i u hu => ?_⟩⟩, hn⟩
    have hi : i < l.length * T.sz := by have := (List.getElem?_eq_some_iff.1 hu).1; rwa [T.cells_length] at this
    have h1 : cur.toList[i]? = some u := by
      have h2 : (cur.toList.take (l.length * T.sz))[i]? = (T.cells l)[i]? := by rw [htake]
      rw [List.getElem?_take_of_lt hi] at h2
      rw [h2, hu]
    have h4 : w.cell? ⟨g, i, none⟩ = cur[i]? := by simp [World.cell?, hh]
    rw [Nat.zero_add, h4, ← Array.getElem?_toList, h1]
theorem IsE.keeps {w w' : World} {a : Option Addr} {len : Nat} {l : List α} (h : IsE T w a len l) (k : Keeps w w') : IsE T w' a len l :=
  ⟨h.1, fun h0 => by obtain ⟨b, off, ha, hb, hc⟩ := h.2 h0; exact ⟨b, off, ha, Nat.lt_of_lt_of_le hb (Below.size k), fun i u hu => (Below.cell k (p := ⟨b, off + i, none⟩) hb).trans (hc i u hu)⟩⟩
theorem IsE.eqv {w w' : World} {a : Option Addr} {len : Nat} {l : List α} (h : IsE T w a len l) (k : Eqv w w') : IsE T w' a len l :=
  ⟨h.1, fun h0 => by obtain ⟨b, off, ha, hb, hc⟩ := h.2 h0; exact ⟨b, off, ha, by rw [k.size]; exact hb, fun i u hu => (k.cell _).trans (hc i u hu)⟩⟩
theorem IsE.nil (w : World) (a : Option Addr) : IsE T w a 0 [] := ⟨rfl, fun h => by simp at h⟩
/-- A literal in a new block. -/
theorem IsE.lit (w : World) (l : List α) (cs : Array Value) (t : TypeId) (hc : (T.cells l).toArray = cs) {b : Nat} (hb : w.heap.size = b) : IsE T (w.alloc (.cells cs t)) (some ⟨b, 0, none⟩) l.length l := by
  subst hb; subst hc
  refine ⟨rfl, fun _ => ⟨_, _, rfl, by simp, fun i u hu => ?_⟩⟩
  rw [World.cell?_alloc_new, Nat.zero_add, List.getElem?_toArray, hu]
/-- Cell j of element i. -/
theorem IsE.get {w : World} {a : Option Addr} {len : Nat} {l : List α} (h : IsE T w a len l) {i : Nat} (hi : i < l.length) : ∃ b off, a = some ⟨b, off, none⟩ ∧ b < w.heap.size ∧ ∀ j u, (T.enc l[i])[j]? = some u → w.cell? ⟨b, off + (i * T.sz + j), none⟩ = some u := by
  obtain ⟨b, off, ha, hb, hc⟩ := h.2 (by omega)
  refine ⟨b, off, ha, hb, fun j u hu => ?_⟩
  have hj : j < T.sz := by have := (List.getElem?_eq_some_iff.1 hu).1; rwa [T.len] at this
  exact hc _ u ((T.cells_get l i hi j hj).trans hu)
/-- 'v = append(v, x...)', v a row of the call's own (of what was made since block 'base'), x another row that is not empty. -/
theorem wp_catE {ops : Array Oper} {rest : List Oper} {o : Oper} {a : Act} {Q : Exit → Act → World → Prop} {wr : World} (hgd : o.guard = none) (s x : Operand)
    (ho : o.op = .call { callee := .builtin .append, args := #[s, x], argTypes := #[T.S, T.S] }) {base : Nat} {v : Value} {l L : List α} (hown : OwnE T wr base v l)
    {ax : Option Addr} {n c : Nat} (hs : a.eval s = v) (hx : a.eval x = .slice ax n c) (hI : IsE T wr ax n L) (h0 : L ≠ []) (hl : l.length + L.length ≤ 1000000000) (hb : base ≤ wr.heap.size)
    (h : ∀ v' w', OwnE T w' base v' (l ++ L) → wr.grownBy w' v.ownBlock → (v'.ownBlock = v.ownBlock ∨ v'.ownBlock = some wr.heap.size) → wpList Tryd.prog ops Q rest (a.put o.dst v') w') :
    wpList Tryd.prog ops Q (o :: rest) a wr := by
  obtain ⟨i0, hi, hz0, hz1, hz2⟩ := info_parts T.info
  obtain ⟨hn, hc⟩ := hI
  obtain ⟨b, off, rfl, hbb, hc⟩ := hc (List.length_pos_iff.2 h0)
  have hown0 : wr.ownsRow base T.E T.sz v l.length (T.cells l) := hown
  have hsm := T.small
  refine wpList_append_own_at _ hgd s x T.S ho base T.E i0 T.z T.sz T.bs T.und hi hz0 hz1 hz2 T.zs T.pos v l.length (T.cells l) hs hown0
    ⟨b, off, none⟩ n c (T.cells L) hx (by rw [T.cells_length, hn]) ?_ (T.cells_one' L) ?_ ?_ hb ?_
  · intro j u hj
    rw [Addr.add_mid]; exact hc j u hj
  · unfold maxLen; omega
  · have : (l.length + n) * T.bs ≤ 1000000000 * 1000 := Nat.mul_le_mul (by omega) hsm
    omega
  · intro v' w' h1 h2 _ h4
    refine h v' w' ?_ h2 h4
    unfold OwnE; rw [List.length_append, T.cells_append, ← hn]; exact h1
/-- 'v = append(v, y)'. -/
theorem wp_pushE {ops : Array Oper} {rest : List Oper} {o : Oper} {a : Act} {Q : Exit → Act → World → Prop} {wr : World} (hgd : o.guard = none) (s x : Operand)
    (ho : o.op = .call { callee := .builtin .append, args := #[s, x], argTypes := #[T.S, T.S] }) {base : Nat} {v : Value} {l : List α} (y : α) (cs : Array Value) (hcs : (T.enc y).toArray = cs) (H : Nat) (hH : wr.heap.size = H) (hown : OwnE T wr base v l)
    (hs : a.eval s = v) (hx : a.eval x = .slice (some ⟨H, 0, none⟩) 1 1) (hl : l.length ≤ 100000000) (hb : base ≤ wr.heap.size) (t : TypeId)
    (h : ∀ v' w', OwnE T w' base v' (l ++ [y]) → (wr.alloc (.cells cs t)).grownBy w' v.ownBlock → (v'.ownBlock = v.ownBlock ∨ v'.ownBlock = some (H + 1)) → wpList Tryd.prog ops Q rest (a.put o.dst v') w') :
    wpList Tryd.prog ops Q (o :: rest) a (wr.alloc (.cells cs t)) := by
  refine wp_catE (T := T) hgd s x ho (hown.at fun g hg => Below.heap_alloc wr _ g (hown.old hg)) hs hx (IsE.lit wr [y] cs t (by rw [T.cells_one]; exact hcs) hH) (by simp) (by simp; omega) (by simp; omega) ?_
  intro v' w' h1 h2 h3
  refine h v' w' h1 h2 ?_
  rwa [World.size_alloc, hH] at h3
end
end Go.Proofs.YtlghkdkaifcliaaDoor
namespace Go.Proofs.YtlghkdkaifcliaaDoor
open Go.RowKit Gf
set_option maxRecDepth 100000
/-- The cells of a block behind a store. -/
theorem setCells_block {g : Nat} {t : TypeId} {fr : Nat × Nat} : ∀ (vs : List Value) (o : Nat) (w : World) (cur : Array Value), w.heap[g]? = some (.cells cur t fr) → o + vs.length ≤ cur.size →
    ∃ cur' : Array Value, (w.setCells g o vs).heap[g]? = some (.cells cur' t fr) ∧ cur'.toList = cur.toList.take o ++ vs ++ cur.toList.drop (o + vs.length)
  | [], o, w, cur, h, hl => ⟨cur, h, by simp⟩
  | v :: r, o, w, cur, h, hl => by
    rw [List.length_cons] at hl
    have hg := (Array.getElem?_eq_some_iff.1 h).1
    have h1 : (w.setCell ⟨g, o, none⟩ v).heap[g]? = some (.cells (cur.setIfInBounds o v) t fr) := by
      simp [World.setCell, Array.getElem?_modify, h]
    obtain ⟨cur', h2, h3⟩ := setCells_block r (o + 1) _ _ h1 (by rw [Array.size_setIfInBounds]; omega)
    refine ⟨cur', h2, ?_⟩
    have ho : o < cur.toList.length := by rw [Array.length_toList]; omega
    rw [h3, Array.toList_setIfInBounds, List.drop_set_of_lt (by omega), List.length_cons]
    rw [show (cur.toList.set o v).take (o + 1) = cur.toList.take o ++ [v] by
      rw [List.take_set, List.take_add_one, List.getElem?_eq_getElem ho]
      show (cur.toList.take o ++ [cur.toList[o]]).set o v = _
      rw [List.set_append_right _ _ (by rw [List.length_take]; omega), List.length_take, Nat.min_eq_left (by omega), Nat.sub_self]; rfl]
    rw [show o + 1 + r.length = o + (r.length + 1) by omega]
    simp
theorem take_splice {β : Type} (L vs : List β) (o N : Nat) (ho : o + vs.length ≤ N) (hN : N ≤ L.length) : (L.take o ++ vs ++ L.drop (o + vs.length)).take N = (L.take N).take o ++ vs ++ (L.take N).drop (o + vs.length) := by
  have hA : (L.take o ++ vs).length = o + vs.length := by rw [List.length_append, List.length_take]; omega
  rw [List.take_take, Nat.min_eq_left (by omega), List.drop_take, List.take_append, hA, List.take_of_length_le (by omega)]
section
variable {α : Type} (T : RowT α)
theorem RowT.cells_replicate (a : α) : ∀ n, T.cells (List.replicate n a) = (List.replicate n (T.enc a)).flatten
  | 0 => rfl
  | n + 1 => by rw [List.replicate_succ, List.replicate_succ, List.flatten_cons, ← RowT.cells_replicate a n]; rfl
/-- The cells of a row that was made. -/
theorem made_toList (z : α) (hz : T.z.cells.toList = T.enc z) (n : Nat) : (madeCells T.z.cells (n * T.sz)).toList = T.cells (List.replicate n z) := by
  have hs : T.z.cells.size = T.sz := T.zs
  have hp := T.pos
  refine List.ext_getElem? fun j => ?_
  by_cases hj : j < n * T.sz
  · have hm : (madeCells T.z.cells (n * T.sz)).toList[j]? = (T.enc z)[j % T.sz]? := by
      rw [Array.getElem?_toList]
      unfold madeCells
      rw [Array.getElem?_map, Array.getElem?_range]
      rw [if_pos hj]
      have h2 : j % T.z.cells.size < T.z.cells.size := Nat.mod_lt _ (by omega)
      show some (T.z.cells[j % T.z.cells.size]!) = _
      rw [getElem!_pos T.z.cells _ h2, ← hz, Array.getElem?_toList, ← hs, Array.getElem?_eq_getElem h2]
    rw [hm]
    have hq : j / T.sz < n := (Nat.div_lt_iff_lt_mul hp).2 hj
    have e : j = j / T.sz * T.sz + j % T.sz := by rw [Nat.mul_comm]; exact (Nat.div_add_mod j T.sz).symm
    conv => rhs; rw [e]
    rw [T.cells_get _ (j / T.sz) (by rw [List.length_replicate]; exact hq) _ (Nat.mod_lt _ hp), List.getElem_replicate]
  · rw [List.getElem?_eq_none (by rw [Array.length_toList, size_madeCells]; omega), List.getElem?_eq_none (by rw [T.cells_length, List.length_replicate]; omega)]
/-- make: a row of n zero elements. -/
theorem makeE (n : Nat) (h : n ≤ 1000000) (w : World) :
    (Instr.makeSlice T.S (.int .i64 (n : Int)) (.int .i64 (n : Int))).run Tryd.prog w = .ok (.slice (some ⟨w.heap.size, 0, none⟩) n n) (w.alloc (.cells (madeCells T.z.cells (n * T.sz)) T.E)) := by
  obtain ⟨i0, hi, hz0, hz1, hz2⟩ := info_parts T.info
  have hsm := T.small
  have hb : (T.bs : Int) * (n : Int) ≤ 281474976710656 := by
    have : T.bs * n ≤ 1000 * 1000000 := Nat.mul_le_mul hsm h
    have e : ((T.bs * n : Nat) : Int) = (T.bs : Int) * (n : Int) := Int.natCast_mul _ _
    omega
  have hr := run_make (P := Tryd.prog) w T.S T.E i0 T.z T.und hi hz0 .i64 .i64 n n (by omega) (Int.le_refl _) (by rw [hz2]; exact hb) (by omega)
  simp only [Int.toNat_natCast, hz1] at hr
  exact hr
theorem OwnE.made (z : α) (hz : T.z.cells.toList = T.enc z) (w : World) (n : Nat) (h : n ≤ 1000000) :
    OwnE T (w.alloc (.cells (madeCells T.z.cells (n * T.sz)) T.E)) w.heap.size (.slice (some ⟨w.heap.size, 0, none⟩) n n) (List.replicate n z) := by
  unfold OwnE
  rw [List.length_replicate, ← made_toList T z hz]
  exact World.ownsRow_lit w _ n (Nat.le_refl _) (by unfold maxLen; omega) (by rw [size_madeCells])
variable {T}
/-- Some cells of an own row are written. -/
theorem OwnE.write {w : World} {base g cap n : Nat} {l l' : List α} (h : OwnE T w base (.slice (some ⟨g, 0, none⟩) n cap) l) {o : Nat} (vs : List Value) (ho : o + vs.length ≤ l.length * T.sz) (hl : l'.length = l.length)
    (hc : T.cells l' = (T.cells l).take o ++ vs ++ (T.cells l).drop (o + vs.length)) : OwnE T (w.setCells g o vs) base (.slice (some ⟨g, 0, none⟩) n cap) l' := by
  obtain ⟨_, h⟩ := h
  rcases h with ⟨h, _⟩ | ⟨g', cap', cur, hv, hb, hh, hn, hc2, hsz, htake⟩
  · cases h
  · simp only [Value.slice.injEq, Option.some.injEq, Addr.mk.injEq] at hv
    obtain ⟨⟨rfl, _⟩, rfl, rfl⟩ := hv
    have hcs : l.length * T.sz ≤ cur.size := by rw [hsz]; exact Nat.mul_le_mul_right _ hn
    obtain ⟨cur', h2, h3⟩ := setCells_block vs o w cur hh (by omega)
    refine ⟨by rw [T.cells_length], .inr ⟨g, cap, cur', by rw [hl], hb, h2, by rw [hl]; exact hn, hc2, ?_, ?_⟩⟩
    · rw [← Array.length_toList, h3]; simp; omega
    · rw [h3, hl, hc, ← htake, take_splice _ _ _ _ ho (by rw [Array.length_toList]; exact hcs)]
theorem RowT.cells_take (l : List α) (i : Nat) (h : i ≤ l.length) : (T.cells l).take (i * T.sz) = T.cells (l.take i) := by
  have e : T.cells l = T.cells (l.take i) ++ T.cells (l.drop i) := by rw [← T.cells_append, List.take_append_drop]
  have hl : (T.cells (l.take i)).length = i * T.sz := by rw [T.cells_length, List.length_take, Nat.min_eq_left h]
  rw [e, List.take_left' hl]
theorem RowT.cells_drop (l : List α) (i : Nat) (h : i ≤ l.length) : (T.cells l).drop (i * T.sz) = T.cells (l.drop i) := by
  have e : T.cells l = T.cells (l.take i) ++ T.cells (l.drop i) := by rw [← T.cells_append, List.take_append_drop]
  have hl : (T.cells (l.take i)).length = i * T.sz := by rw [T.cells_length, List.length_take, Nat.min_eq_left h]
  rw [e, List.drop_left' hl]
/-- Element i is written. -/
theorem OwnE.put {w : World} {base g cap n : Nat} {l : List α} (h : OwnE T w base (.slice (some ⟨g, 0, none⟩) n cap) l) {i : Nat} (hi : i < l.length) (y : α) :
    OwnE T (w.setCells g (i * T.sz) (T.enc y)) base (.slice (some ⟨g, 0, none⟩) n cap) (l.set i y) := by
  have hle : (i + 1) * T.sz ≤ l.length * T.sz := Nat.mul_le_mul_right _ hi
  have e1 : i * T.sz + (T.enc y).length = (i + 1) * T.sz := by rw [T.len, Nat.succ_mul]
  refine h.write (T.enc y) (by rw [e1]; exact hle) (List.length_set ..) ?_
  rw [e1, RowT.cells_take l i (by omega), RowT.cells_drop l (i + 1) (by omega), List.set_eq_take_append_cons_drop, if_pos hi, T.cells_append]
  show _ ++ (T.enc y ++ T.cells (l.drop (i + 1))) = _
  rw [List.append_assoc]
/-- There is memory for element i of an own row, and it may be written. -/
theorem OwnE.there {w : World} {base g cap n : Nat} {l : List α} (h : OwnE T w base (.slice (some ⟨g, 0, none⟩) n cap) l) {i : Nat} (hi : i < l.length) : w.there g (i * T.sz) T.sz := by
  obtain ⟨_, h⟩ := h
  rcases h with ⟨h, _⟩ | ⟨g', cap', cur, hv, hb, hh, hn, hc2, hsz, htake⟩
  · cases h
  · simp only [Value.slice.injEq, Option.some.injEq, Addr.mk.injEq] at hv
    obtain ⟨⟨rfl, _⟩, rfl, rfl⟩ := hv
    intro j hj
    have h1 : (i + 1) * T.sz ≤ cap * T.sz := Nat.mul_le_mul_right _ (by omega)
    rw [Nat.succ_mul] at h1
    refine ⟨?_, ?_⟩
    · simp [World.cell?, hh]; omega
    · simp [World.frozen?, hh]
/-- A slice of a row that is read. -/
theorem IsE.take {w : World} {a : Option Addr} {len : Nat} {l : List α} (h : IsE T w a len l) {i : Nat} (hi : i ≤ l.length) : IsE T w a i (l.take i) := by
  refine ⟨by rw [List.length_take]; omega, fun h0 => ?_⟩
  rw [List.length_take] at h0
  obtain ⟨b, off, ha, hb, hc⟩ := h.2 (by omega)
  refine ⟨b, off, ha, hb, fun j u hu => hc j u ?_⟩
  rw [← RowT.cells_take l i hi] at hu
  have hj : j < i * T.sz := by have := (List.getElem?_eq_some_iff.1 hu).1; rw [List.length_take] at this; omega
  rwa [List.getElem?_take_of_lt hj] at hu
theorem IsE.drop {w : World} {b off : Nat} {len : Nat} {l : List α} (h : IsE T w (some ⟨b, off, none⟩) len l) {i : Nat} (hi : i ≤ l.length) : IsE T w (some ⟨b, off + i * T.sz, none⟩) (len - i) (l.drop i) := by
  refine ⟨by rw [List.length_drop, h.1], fun h0 => ?_⟩
  rw [List.length_drop] at h0
  obtain ⟨b', off', ha, hb, hc⟩ := h.2 (by omega)
  cases ha
  refine ⟨_, _, rfl, hb, fun j u hu => ?_⟩
  rw [← RowT.cells_drop l i hi, List.getElem?_drop] at hu
  have := hc _ u hu
  rwa [← Nat.add_assoc] at this
/-- An element is read whole. -/
theorem IsE.range {w : World} {a : Option Addr} {len : Nat} {l : List α} (h : IsE T w a len l) {i : Nat} (hi : i < l.length) : ∃ b off, a = some ⟨b, off, none⟩ ∧ b < w.heap.size ∧ w.rangeAt b (off + i * T.sz) (T.enc l[i]) := by
  obtain ⟨b, off, ha, hb, hc⟩ := h.get hi
  exact ⟨b, off, ha, hb, fun j v hv => by rw [Nat.add_assoc]; exact hc j v hv⟩
end
end Go.Proofs.YtlghkdkaifcliaaDoor
namespace Go.Proofs.YtlghkdkaifcliaaDoor
open Go.RowKit Gf Go.Deep
set_option maxRecDepth 100000
theorem cell_there {W : World} {p : Addr} {v : Value} (h : W.cell? p = some v) : p.block < W.heap.size := by
  obtain ⟨o, ho, _⟩ := cells_of_cell h
  exact (Array.getElem?_eq_some_iff.1 ho).1
theorem cells_ints {k : IntKind} : ∀ (l : List Value), (∀ i, i < l.length → ∃ n, (l.drop i).take 1 = [.int k n] ∧ (Lit.int k n).wf = true) → ∃ xs : List Int, l = xs.map (.int k) ∧ ∀ x ∈ xs, (Lit.int k x).wf = true
  | [], _ => ⟨[], rfl, by simp⟩
  | v :: l, h => by
    obtain ⟨n, hn, hw⟩ := h 0 (by simp)
    simp at hn
    obtain ⟨xs, hx, hxw⟩ := cells_ints l (fun i hi => by simpa using h (i + 1) (by simpa using hi))
    refine ⟨n :: xs, by rw [hx, hn]; rfl, ?_⟩
    intro x hx2
    rcases List.mem_cons.1 hx2 with rfl | hx2
    · exact hw
    · exact hxw x hx2
/-- An array of numbers, by value. -/
theorem open_arr {H : Type} {enc : TypeId × Value → H} {W : World} {r : Reach} {b0 base : Nat} {spare : Nat → Bool} {held : Bool} {v : Value} {d : DataW H} {p : List MemPlace} {T E : TypeId} {k : IntKind} {n : Nat}
    (hT : Tryd.prog.underlying T = some (.array n E)) (hE : Tryd.prog.underlying E = some (.int k)) (cT : Tryd.prog.cellsOf T = n) (cE : Tryd.prog.cellsOf E = 1)
    (hv : Value.okWide Tryd.prog W r b0 T v) (h : DataW.Trod enc Tryd.prog W base spare held T v d p) :
    ∃ xs : List Int, xs.length = n ∧ v = .agg (xs.map (.int k)).toArray ∧ ∀ x ∈ xs, (Lit.int k x).wf = true := by
  obtain ⟨cs, rfl, hsz, _⟩ : ∃ cs, v = .agg cs ∧ cs.size = Tryd.prog.cellsOf T ∧ Row.okWide Tryd.prog W r b0 T cs := by
    simpa [Value.okWide, hT] using hv
  rw [cT] at hsz
  obtain ⟨l⟩ := cs
  obtain ⟨fuel, hf⟩ := h
  obtain ⟨xs, m, _, _, _, hn, hxs⟩ := DataW.trod_array hT hf
  have hl : l.length = n := hsz
  obtain ⟨ys, hy, hyw⟩ := cells_ints (k := k) l (fun i hi => by
    have h0 := hxs i (by omega)
    rw [cE, Nat.mul_one] at h0
    have hi2 : i < xs.length := by omega
    rw [List.getElem?_eq_getElem hi2] at h0
    obtain ⟨x, e0, _, wx⟩ := DataW.trod_int hE h0
    exact ⟨x, by simpa [Value.cells] using e0, wx⟩)
  exact ⟨ys, by rw [← hl, hy, List.length_map], by rw [hy], hyw⟩
end Go.Proofs.YtlghkdkaifcliaaDoor
namespace Go.Proofs.YtlghkdkaifcliaaDoor
open Go Go.RowKit
set_option maxRecDepth 100000
/-- The record of a loop that is under way, and the block of its rounds' deferred calls. -/
structure Lp (D l : Nat) (r : Loop) (W : World) : Prop where
  loop : W.heap[l]? = some (.loop r)
  dfr : W.heap[D]? = some (.deferred (some []))
theorem Lp.others {D l : Nat} {r : Loop} {W W' : World} (h : Lp D l r W) (k : KeepsOthers W W') : Lp D l r W' := ⟨k.same _ _ h.loop rfl, k.same _ _ h.dfr rfl⟩
/-- W turned in nothing but the loop's own record. -/
theorem put_only {l : Nat} (W : World) (o : Obj) : Only l W (W.putObj l o) :=
  ⟨rfl, rfl, rfl, by simp [World.putObj], fun k _ hn => World.putObj_heap_other fun e => hn e⟩
/-- One round, out of the walk of its body: R tells of the world ahead of the record's last turn. -/
theorem yield_round {m : Nat} {P : Program} {D l : Nat} {r : Loop} {W : World} {args : Array Value} (h : Lp D l r W) (hD : D ≠ l) (hst : r.state = .ready) (hp : r.pending = none) (hs : args.size = r.params.size) {a₁ : Act} (R : World → Prop)
    (hassign : ∀ K : Act → World → Prop, K a₁ W → r.assign.wpIn (Fence.wide.inRound l) m P (Exit.then K fun _ _ _ => False) { tmps := (r.params.zip args).foldl (fun t (p, v) => t.setIfInBounds p v) r.tmps, defers := [] } W)
    (hbody : r.body.wpIn (Fence.wide.inRound l) m P (fun e _ W' => e = .normal ∧ KeepsOthers (W.putObj l (.loop { r with state := .busy })) W' ∧ R W') a₁ (W.putObj l (.loop { r with state := .busy }))) :
    YieldAt Fence.wide m P l args W fun e W'' => e = .returned (.bool true) ∧ Lp D l r W'' ∧ ∃ W', R W' ∧ W'' = W'.putObj l (.loop r) ∧ KeepsOthers (W.putObj l (.loop { r with state := .busy })) W' := by
  have hlt : l < W.heap.size := (Array.getElem?_eq_some_iff.1 h.loop).1
  have hl2 : (W.putObj l (.loop { r with state := .busy })).heap[l]? = some (.loop { r with state := .busy }) := World.putObj_heap_same hlt
  have hd2 : (W.putObj l (.loop { r with state := .busy })).heap[D]? = some (.deferred (some [])) := (World.putObj_heap_other hD).trans h.dfr
  refine ⟨r.fn, _, r.assign, r.body, run_yield h.loop hs, roundIn_of_wpIn trivial (hassign _ ⟨_, run_beginRound h.loop hst, wpIn_mono hbody ?_⟩)⟩
  rintro e a3 W3 ⟨rfl, hk, hR⟩
  have hl3 := hk.same _ _ hl2 rfl
  have hd3 := hk.same _ _ hd2 rfl
  have er : ({ { r with state := .busy } with state := if (none : Option Code).isNone then .ready else .done, pending := none } : Loop) = r := by
    cases r; simp only at hst hp; subst hst; subst hp; rfl
  refine ⟨_, _, run_endRound none hl3, rfl, ?_⟩
  rw [er]
  exact ⟨⟨World.putObj_heap_same (Array.getElem?_eq_some_iff.1 hl3).1, (World.putObj_heap_other hD).trans hd3⟩, W3, hR, rfl, hk⟩
/-- The range: r is the loop's record, E tells what the iterator leaves. -/
theorem wpIn_range {n : Nat} {P : Program} {g : Operand} {ps : Array Tmp} {assign body : Code} {Q : Exit → Act → World → Prop} {a : Act} {w : World} {gf : Nat} {lb : Array Value} (hg : a.eval g = .func (.func gf) #[] lb)
    (eg : ∀ args w, (callFunc gf args).run P w = .ok (.enter gf args) w) (E : World → Prop)
    (hit : ∀ (fn : FuncId) (r : Loop), r = { state := .ready, pending := none, fn, tmps := a.tmps, params := ps, assign, body, defers := w.heap.size } →
      Lp w.heap.size (w.heap.size + 1) r ((w.alloc (.deferred (some []))).alloc (.loop r)) →
      CallsIn Fence.wide (n - 1) P gf (#[.func (.yield (w.heap.size + 1)) #[] #[]] ++ lb) ((w.alloc (.deferred (some []))).alloc (.loop r)) fun e W' => (∃ v, e = .returned v) ∧ Lp w.heap.size (w.heap.size + 1) r W' ∧ E W')
    (hdone : ∀ (W : World) (o : Obj), E W → (W.putObj (w.heap.size + 1) o).heap[w.heap.size]? = some (.deferred (some [])) →
      Q .normal { a with defers := { target := .collected w.heap.size, args := #[] } :: a.defers } (W.putObj (w.heap.size + 1) o)) :
    (Code.rangeFunc g ps assign body).wpIn Fence.wide n P Q a w := by
  refine wpIn_rangeFunc fun fn _ => ?_
  obtain ⟨r, hr⟩ : ∃ r : Loop, r = { state := .ready, pending := none, fn, tmps := a.tmps, params := ps, assign, body, defers := w.heap.size } := ⟨_, rfl⟩
  have hl : ((w.alloc (.deferred (some []))).alloc (.loop r)).heap[w.heap.size + 1]? = some (.loop r) := by
    have := World.alloc_heap_new (w.alloc (.deferred (some []))) (.loop r); rwa [World.size_alloc] at this
  have hd : ((w.alloc (.deferred (some []))).alloc (.loop r)).heap[w.heap.size]? = some (.deferred (some [])) := (Below.heap_alloc _ _ _ (by simp)).trans (World.alloc_heap_new w _)
  refine ⟨w.heap.size + 1, [{ target := .collected w.heap.size, args := #[] }], (w.alloc (.deferred (some []))).alloc (.loop r), { target := .fn (.func gf) lb, args := #[.func (.yield (w.heap.size + 1)) #[] #[]] }, (w.alloc (.deferred (some []))).alloc (.loop r), gf,
    #[.func (.yield (w.heap.size + 1)) #[] #[]] ++ lb, (w.alloc (.deferred (some []))).alloc (.loop r), ?_, ?_, fun _ _ => trivial, ?_, fun h => (by cases h), ?_⟩
  · rw [hr]; exact run_enterLoop_outer _ _ _ _ _
  · simp only [resolve, hg]; simp [go_sem]
  · simp [invoke, go_sem, eg]
  · refine (hit fn r hr ⟨hl, hd⟩).mono ?_
    rintro e W2 ⟨⟨v, rfl⟩, hL, hE⟩
    have hpn : r.pending = none := by rw [hr]
    have hrb : r.state ≠ .busy := by rw [hr]; simp
    refine ⟨none, _, by have := run_endLoop (P := P) hL.loop hrb; rw [hpn] at this; exact this, hdone _ _ hE ?_⟩
    exact (World.putObj_heap_other (by omega)).trans hL.dfr
end Go.Proofs.YtlghkdkaifcliaaDoor
namespace Go.Proofs.YtlghkdkaifcliaaDoor
open Go.RowKit Gf
set_option maxRecDepth 100000
theorem Does.copy {P : Program} {o : Oper} {ρ : Operand → Value} {w : World} {R : Value → World → Prop} (d s : Operand) (ats : Array TypeId) (ho : o.op = Op.call { callee := Callee.builtin Builtin.copy, args := #[d, s], argTypes := ats }) {ty : TypeId} (hty : o.type = ty)
    {vd vs v : Value} {w' : World} (hd : ρ d = vd) (hs : ρ s = vs) (hrun : (Builtin.copy_ ats ty #[vd, vs]).run P w = .ok v w') (h : R v w') : Does P o ρ w R := by
  unfold Does
  have e : (execOp ρ o).run P w = .ok (.value v) w' := by
    unfold execOp
    simp [ho, resolve, invoke, builtin, hd, hs, hty, hrun, Result.andThen]
  rw [e]; exact h
theorem _root_.Go.RowKit.Below.eqvL {B : Nat} {w w' w'' : World} (h : Below B w' w'') (e : Eqv w w') : Below B w w'' :=
  ⟨h.os.trans e.os, h.tape.trans e.tape, h.output.trans e.output, by rw [← e.heap]; exact h.size, fun k hk => (h.block k hk).trans (by rw [e.heap])⟩
/-- Bytes that are written over others. -/
theorem Blk.put {b : Nat} {l : List UInt8} {w : World} (h : Blk b l w) (o : Nat) (vs l' : List UInt8) (ho : o + vs.length ≤ l.length) (hl : l'.length = l.length) (hc : ∀ i, i < l.length → cf l' i = if o ≤ i ∧ i < o + vs.length then cf vs (i - o) else cf l i) :
    Blk b l' (w.setCells b o (vs.map B)) := by
  refine ⟨Nat.lt_of_lt_of_le h.old (only_setCells b _ o w).size, fun i hi => ?_, fun i hi => ?_⟩
  · rw [hl] at hi
    rw [hc i hi]
    by_cases e : o ≤ i ∧ i < o + vs.length
    · rw [if_pos e]
      have hj : i - o < (vs.map B).length := by rw [List.length_map]; omega
      have h2 := World.cell?_setCells_in b (vs.map B) o w (fun j hj => by
        rw [List.length_map] at hj
        rw [h.cell (o + j) (by omega)]; rfl) (i - o) hj
      rw [show o + (i - o) = i by omega, List.getElem_map] at h2
      rw [h2, cf_lt (by omega)]; rfl
    · rw [if_neg e, World.cell?_setCells_out b _ _ _ _ (fun _ _ => by
        rw [List.length_map]
        show i < o ∨ o + vs.length ≤ i
        omega)]
      exact h.cell i hi
  · rw [hl] at hi
    rw [World.frozen?_setCells]; exact h.free i hi
theorem size8 : ∀ w, (Go.sizeOf 5).run Tryd.prog w = .ok 1 w := Tryd.sizeOf5
/-- 'copy(row, s)', s a string: as many bytes as there is room for. -/
theorem copy_str {b o dLen dCap cnt : Nat} {w : World} {t : ByteArray} (hn : Nat.min t.size dLen = cnt) (ht : w.there b o cnt) (ty : TypeId) :
    (Builtin.copy_ #[74, 9] ty #[.slice (some ⟨b, o, none⟩) dLen dCap, .string t]).run Tryd.prog w = .ok (.int .i64 (cnt : Int)) (w.setCells b o (((ls t).take cnt).map B)) := by
  have hl : ((ls t).take cnt).length = cnt := by rw [List.length_take, ← ls_size, ← hn]; exact Nat.min_eq_left (Nat.min_le_left _ _)
  have hst := run_storeCells_cells (P := Tryd.prog) b o (((ls t).take cnt).map B) 0 w (by rw [List.length_map, hl]; intro j hj; rw [Nat.add_zero]; exact (ht j hj).1) (by rw [List.length_map, hl]; intro j hj; rw [Nat.add_zero]; exact (ht j hj).2) (by
    intro v hv
    obtain ⟨x, _, rfl⟩ := List.mem_map.1 hv
    rfl)
  have e : List.take cnt (List.map (fun b => Value.int IntKind.u8 (b.toNat : Int)) t.data.toList) = ((ls t).take cnt).map B := by rw [List.map_take]; rfl
  simp [Builtin.copy_, run_underlying Tryd.underlying74, Builtin.lenOf, Builtin.firstCells, hn]
  rw [e]
  simp only [List.map_take] at hst ⊢
  simp at hst
  rw [hst]
  simp [goInt]
/-- 'copy(row, from)': as many bytes as there are in both. -/
theorem copy_row {b o dLen dCap c p sLen sCap : Nat} {w : World} {l : List UInt8} (hn : l.length = Nat.min sLen dLen) (hs : ∀ j, j < l.length → w.cell? ⟨c, p + j, none⟩ = some (B (cf l j))) (ht : w.there b o l.length) (ty : TypeId) :
    (Builtin.copy_ #[74, 74] ty #[.slice (some ⟨b, o, none⟩) dLen dCap, .slice (some ⟨c, p, none⟩) sLen sCap]).run Tryd.prog w = .ok (.int .i64 (l.length : Int)) (w.setCells b o (l.map B)) := by
  have hm : (l.map B).length = l.length := List.length_map _
  have hz : (Tryd.prog.info? 5).map (·.size) = some 1 := by kernel_rfl
  have e := run_copy_cells (P := Tryd.prog) w 74 74 ty 5 b o dLen dCap ⟨c, p, none⟩ sLen sCap (l.map B) Tryd.underlying74 hz (by rw [hm]; exact hn) (by
    intro j v hj
    have hlt : j < l.length := by rw [← hm]; exact (List.getElem?_eq_some_iff.1 hj).1
    rw [Addr.add_mid, hs j hlt, ← hj, List.getElem?_map, List.getElem?_eq_getElem hlt, cf_lt hlt]
    rfl) (by rw [hm]; intro j hj; exact (ht j hj).1) (by rw [hm]; intro j hj; exact (ht j hj).2) (by
    intro v hv
    obtain ⟨x, _, rfl⟩ := List.mem_map.1 hv
    rfl)
  rw [hm] at e
  rw [e]; rfl
end Go.Proofs.YtlghkdkaifcliaaDoor
