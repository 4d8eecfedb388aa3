/-
  A region that draws its order where a value hangs on what a call answers: what is said of the values is chosen behind each operation. No condition beyond what each theorem states.
-/
import Derived.Test.YtofnokikjfmfgaaDraw
namespace Go.Proofs.Ytofnokikjfmfgaa
open Go.RowKit
set_option maxRecDepth 100000
section
variable {P : Program} {base : Act}
/-- What is said of the values may be chosen anew behind operation i, but for those that are there. -/
def Goes {Γ : Type} (vs : Γ → List Value) (WR : Γ → (Nat → Bool) → World → Prop) (i : Nat) (dst : Option Tmp) (γ : Γ) (L : Nat → Bool) (v : Value) (w' : World) : Prop :=
  ∃ γ', (∀ j, L j = true → (vs γ').getD j undef = (vs γ).getD j undef) ∧ (dst ≠ none → v = (vs γ').getD i undef) ∧ ∀ L', (∀ j, L' j = true ↔ (L j = true ∨ j = i)) → WR γ' L' w'
theorem Goes.on {Γ : Type} {vs : Γ → List Value} {WR : Γ → (Nat → Bool) → World → Prop} {i : Nat} {dst : Option Tmp} {γ : Γ} {L : Nat → Bool} {v : Value} {w' : World} (hv : dst ≠ none → v = (vs γ).getD i undef) (h : ∀ L', (∀ j, L' j = true ↔ (L j = true ∨ j = i)) → WR γ L' w') : Goes vs WR i dst γ L v w' :=
  ⟨γ, fun _ _ => rfl, hv, h⟩
/-- What is to be shown of an operation; γ tells what calls have answered so far. -/
def LookH {Γ : Type} (P : Program) (ops : Array Oper) (vs : Γ → List Value) (fin : Γ → Act) (WR : Γ → (Nat → Bool) → World → Prop) (i : Nat) (o : Oper) : Prop :=
  match o.guard with
  | none => ∀ γ L w, L i = false → (∀ j, waits ops i j = true → L j = true) → Shut ops L → WR γ L w →
      Does P o (fin γ).eval w (Goes vs WR i o.dst γ L)
  | some (g, b) => ∀ γ L w, L i = false → (∀ j, waits ops i j = true → L j = true) → Shut ops L → WR γ L w →
      if boolOf ((vs γ).getD g undef) == some b then Does P o (fin γ).eval w (Goes vs WR i o.dst γ L)
      else (o.dst ≠ none → undef = (vs γ).getD i undef) ∧ ∀ L', (∀ j, L' j = true ↔ (L j = true ∨ j = i)) → WR γ L' w
theorem LookH.at {Γ : Type} {ops : Array Oper} {vs : Γ → List Value} {fin : Γ → Act} {WR : Γ → (Nat → Bool) → World → Prop} {i : Nat} {o : Oper} (h : LookH P ops vs fin WR i o) {γ : Γ} {L : Nat → Bool} {w : World} (h0 : L i = false) (h1 : ∀ j, waits ops i j = true → L j = true) (h2 : Shut ops L) (h3 : WR γ L w) :
    if wantG (vs γ) o then Does P o (fin γ).eval w (Goes vs WR i o.dst γ L)
    else (o.dst ≠ none → undef = (vs γ).getD i undef) ∧ ∀ L', (∀ j, L' j = true ↔ (L j = true ∨ j = i)) → WR γ L' w := by
  unfold LookH at h
  unfold wantG
  cases hg : o.guard with
  | none => rw [hg] at h; exact h γ L w h0 h1 h2 h3
  | some gb => obtain ⟨g, b⟩ := gb; rw [hg] at h; exact h γ L w h0 h1 h2 h3
/-- As 'wp_draw_g', what is said of the values being chosen behind each operation. -/
theorem wp_draw_h {Γ : Type} {id : Nat} {Q : Exit → Act → World → Prop} {w : World} {l : List Oper} (hm : P.follows .mixedOrders = true) (vs : Γ → List Value) (WR : Γ → (Nat → Bool) → World → Prop) {N : Nat} (hN : base.tmps.size = N) (hB : okB l.toArray N = true)
    (fin : Γ → Act) (hfin : ∀ γ, seqA l.toArray (vs γ) base l.length = fin γ) (γ0 : Γ) (h0 : WR γ0 (fun _ => false) w.drew) (each : Each (LookH P l.toArray vs fin WR) 0 l) (hend : ∀ γ L w, (∀ j, j < l.length → L j = true) → WR γ L w → Q .normal (fin γ) w) :
    (Code.region id l.toArray true).wp P Q base w := by
  have ok : Ok l.toArray base.tmps.size := by rw [hN]; exact okB_ok hB
  refine wp_region_any hm ?_
  have fin1 : ∀ γ listed a w, listed.size = l.toArray.size → St l.toArray (vs γ) base (lis listed) a → WR γ (lis listed) w → Region.ready .any l.toArray listed = [] → Q .normal a w := by
    intro γ listed a w hsz hst hw hr
    have hall := ready_none ok hsz hr
    have e : a = seqA l.toArray (vs γ) base l.length := by
      refine hst.one ⟨(seq_st (vs := vs γ) ok l.length).defers, (seq_st (vs := vs γ) ok l.length).size, fun j d _ hjd => ?_, fun s hn => ?_⟩
      · have hj : j < l.length := by
          unfold dstOf at hjd
          obtain ⟨o, ho, _⟩ := Option.bind_eq_some_iff.1 hjd
          have := (Array.getElem?_eq_some_iff.1 ho).1; simpa using this
        exact (seq_st ok l.length).put j d (by simpa using hj) hjd
      · exact (seq_st (vs := vs γ) ok l.length).rest s fun j hj => hn j (hall j (by simpa using hj))
    rw [e, hfin]; exact hend γ _ w (fun j hj => hall j (by simpa using hj)) hw
  have key : ∀ (fuel : Nat) (γ : Γ) (listed : Array Bool) (a : Act) (w : World), listed.size = l.toArray.size → left l.toArray listed ≤ fuel → St l.toArray (vs γ) base (lis listed) a → Shut l.toArray (lis listed) → WR γ (lis listed) w → wpAny P .any l.toArray Q fuel listed a w := by
    intro fuel
    induction fuel with
    | zero =>
      intro γ listed a w hsz hl hst hsh hw
      have hr : Region.ready .any l.toArray listed = [] := by
        refine List.eq_nil_iff_forall_not_mem.2 fun i hi => ?_
        obtain ⟨o, ho, hf, _⟩ := ready_waits hi
        have : 0 < (List.range l.toArray.size).countP (fun j => !lis listed j) := List.countP_pos_iff.2 ⟨i, List.mem_range.2 (Array.getElem?_eq_some_iff.1 ho).1, (by simp [hf])⟩
        unfold left at hl; omega
      exact ⟨hr, fin1 γ _ _ _ hsz hst hw hr⟩
    | succ fuel ih =>
      intro γ listed a w hsz hl hst hsh hw
      refine ⟨fin1 γ _ _ _ hsz hst hw, fun i hi => ?_⟩
      obtain ⟨o, ho, hf, hwt⟩ := ready_waits hi
      have hio : i < l.toArray.size := (Array.getElem?_eq_some_iff.1 ho).1
      have hil : i < listed.size := by omega
      have hlook := Each.at each (j := i) (o := o) (by simpa using ho)
      rw [Nat.zero_add] at hlook
      have hd := hlook.at hf hwt hsh hw
      have hex := execOp_congr o (ok.sel i o ho) (hst.reads ok ho (Nat.le_of_lt (by simpa using hio)) hwt)
      rw [hfin γ] at hex
      have hod : dstOf l.toArray i = o.dst := by simp only [dstOf, ho, Option.bind_some]
      have next : ∀ (γ' : Γ) (v : Value) (w' : World), (∀ j, lis listed j = true → (vs γ').getD j undef = (vs γ).getD j undef) → (o.dst ≠ none → v = (vs γ').getD i undef) → (∀ L', (∀ j, L' j = true ↔ (lis listed j = true ∨ j = i)) → WR γ' L' w') → wpAny P .any l.toArray Q fuel (listed.setIfInBounds i true) (a.put o.dst v) w' := by
        intro γ' v w' hsw hv hW
        have hst' := hst.swap hsw
        refine ih γ' _ _ _ (by simp [hsz]) (by have := left_set hil hio hf; omega) ?_ ?_ (hW _ (lis_set hil))
        · rw [← hod]
          exact hst'.step ok (lis_set hil) fun d hd' => hv (by rw [← hod, hd']; simp)
        · intro x y hx hxy
          rcases (lis_set hil x).1 hx with hx | rfl
          · exact (lis_set hil y).2 (.inl (hsh x y hx hxy))
          · exact (lis_set hil y).2 (.inl (hwt y hxy))
      unfold wpOp
      simp only [ho]
      rw [hst.wanted ok ho hwt (fun _ _ h => h)]
      by_cases hwg : wantG (vs γ) o = true
      · rw [if_pos hwg] at hd ⊢
        have hdo : Does P o a.eval w (fun v w' => wpAny P .any l.toArray Q fuel (listed.setIfInBounds i true) (a.put o.dst v) w') := (Does.congr hex.symm hd).imp fun v w' ⟨γ', h1, h2, h3⟩ => next γ' v w' h1 h2 h3
        exact .inl hdo.wp
      · rw [if_neg hwg] at hd ⊢
        exact next γ _ _ (fun _ _ => rfl) hd.1 hd.2
  refine key _ γ0 _ _ _ (by simp) (left_le _) St.start' (fun i j h => by rw [lis_none] at h; cases h) ?_
  have e : lis (Array.replicate l.toArray.size false) = fun _ => false := funext fun j => lis_none _ j
  rw [e]; exact h0
end
end Go.Proofs.Ytofnokikjfmfgaa
