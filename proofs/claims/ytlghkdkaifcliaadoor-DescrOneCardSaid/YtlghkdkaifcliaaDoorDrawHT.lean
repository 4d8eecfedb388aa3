/-
  A region that draws its order, of which the last operations come behind all others: what calls answer, and where new blocks lie, is chosen behind each operation. No function of the program.
-/
import Derived.Test.YtlghkdkaifcliaaDoorBase
namespace Go.Proofs.YtlghkdkaifcliaaDoor
open Go.RowKit Gf
set_option maxRecDepth 100000
/-- As 'wp_draw_tail', what is said of the values being chosen behind each operation (as in 'wp_draw_h'). -/
theorem wp_draw_ht {P : Program} {base : Act} {Γ : Type} {id : Nat} {Q : Exit → Act → World → Prop} {w : World} {l : List Oper} (n : Nat) (hm : P.follows .mixedOrders = true) (vs : Γ → List Value) (WR : Γ → (Nat → Bool) → World → Prop) {N : Nat} (hN : base.tmps.size = N) (hB : okB (l.take n).toArray N = true)
    (hT : (decide (n < l.length) && Region.sinkB .any l.toArray n && Region.chainB .any l.toArray n && Region.seqB .any l.toArray (l.length - n) n (List.replicate n true ++ List.replicate (l.length - n) false).toArray) = true)
    (fin : Γ → Act) (hfin : ∀ γ, seqA (l.take n).toArray (vs γ) base n = fin γ) (γ0 : Γ) (h0 : WR γ0 (fun _ => false) w.drew) (each : Each (LookH P (l.take n).toArray vs fin WR) 0 (l.take n))
    (hend : ∀ γ L w, (∀ j, j < n → L j = true) → WR γ L w → wpList P l.toArray Q (l.drop n) (fin γ) w) : (Code.region id l.toArray true).wp P Q base w := by
  simp only [Bool.and_eq_true, decide_eq_true_eq] at hT
  obtain ⟨⟨⟨hn, hs⟩, hc⟩, hseq⟩ := hT
  have ok : Ok (l.take n).toArray base.tmps.size := by rw [hN]; exact okB_ok hB
  have hH : (l.take n).toArray.size = n := by simp; omega
  have hns : n < l.toArray.size := by simpa using hn
  refine wp_region_any hm ?_
  have key : ∀ (f : Nat) (γ : Γ) (listed : Array Bool) (a : Act) (w : World), listed.size = l.length → (∀ t, n ≤ t → t < l.length → listed.getD t true = false) → left (l.take n).toArray listed ≤ f →
      St (l.take n).toArray (vs γ) base (lis listed) a → Shut (l.take n).toArray (lis listed) → WR γ (lis listed) w → wpAny P .any l.toArray Q (f + (l.length - n)) listed a w := by
    intro f
    induction f with
    | zero =>
      intro γ listed a w hsz htl hl hst hsh hw
      have hall : ∀ j, j < n → lis listed j = true := fun j hj => by
        rcases Bool.eq_false_or_eq_true (lis listed j) with e | e
        · exact e
        · have : 0 < (List.range (l.take n).toArray.size).countP (fun j => !lis listed j) := List.countP_pos_iff.2 ⟨j, List.mem_range.2 (by omega), (by simp [e])⟩
          unfold left at hl; omega
      have ha : a = seqA (l.take n).toArray (vs γ) base n := by
        refine hst.one ⟨(seq_st (vs := vs γ) ok n).defers, (seq_st (vs := vs γ) ok n).size, fun j d _ hjd => ?_, fun s hno => ?_⟩
        · have hj : j < n := by
            unfold dstOf at hjd
            obtain ⟨o, ho, _⟩ := Option.bind_eq_some_iff.1 hjd
            have := (Array.getElem?_eq_some_iff.1 ho).1; omega
          exact (seq_st ok n).put j d (by simpa using hj) hjd
        · exact (seq_st (vs := vs γ) ok n).rest s fun j hj => hno j (hall j (by simpa using hj))
      have hlisted : listed = (List.replicate n true ++ List.replicate (l.length - n) false).toArray := by
        refine Array.ext (by simp; omega) fun i h1 h2 => ?_
        by_cases hi : i < n
        · have := hall i hi
          unfold lis at this
          simp [h1] at this
          simp [this, hi]
        · have := htl i (by omega) (by omega)
          simp [h1] at this
          simp [this, List.getElem_append, hi]
      have hq := wpAny_of_seq (P := P) (md := .any) (ops := l.toArray) (Q' := Q) (l.drop n) n listed a w (fun j => by simp [List.getElem?_drop]) (by rw [List.length_drop, hlisted]; exact hseq) (by rw [ha, hfin γ]; exact hend γ _ w hall hw)
      rw [List.length_drop] at hq
      rw [Nat.zero_add]; exact hq
    | succ f ih =>
      intro γ listed a w hsz htl hl hst hsh hw
      by_cases hun : ∃ j, j < n ∧ lis listed j = false
      · obtain ⟨j0, hj0, hj0f⟩ := hun
        have inv : HeadInv .any l.toArray n listed := by
          refine ⟨by simpa using hsz, fun j oj hoj hlj e he hb => ?_, fun t h1 h2 => htl t h1 (by simpa using h2)⟩
          have hjn : j < n := by
            rcases Nat.lt_or_ge j n with h | h
            · exact h
            · have hjs : j < l.length := by have := (Array.getElem?_eq_some_iff.1 hoj).1; simpa using this
              have := htl j h hjs
              rw [getD_both this] at hlj; cases hlj
          refine hsh j e.on hlj ?_
          rw [take_waits l hjn]
          unfold waits; rw [hoj]
          exact Array.any_eq_true'.2 ⟨e, he, by simp [hb]⟩
        have hready : ∀ i ∈ Region.ready .any l.toArray listed, i < n := fun i hi => by
          rcases Nat.lt_or_ge i n with h | h
          · exact h
          · refine absurd hi (tail_waits hs hc hns inv (n - j0) j0 rfl hj0 ?_ i h)
            unfold lis at hj0f; exact getD_in (by omega) hj0f
        have hnonempty : Region.ready .any l.toArray listed ≠ [] := by
          intro he
          have all : ∀ i, i < n → lis listed i = true := by
            intro i
            induction i using Nat.strongRecOn with
            | _ i ihh =>
              intro hi
              rcases Bool.eq_false_or_eq_true (lis listed i) with e | e
              · exact e
              · exfalso
                have hio : i < l.toArray.size := by omega
                have : i ∈ Region.ready .any l.toArray listed := mem_ready.2 ⟨by unfold lis at e; exact getD_in (by rw [hsz]; simpa using hio) e, l.toArray[i], Array.getElem?_eq_getElem hio, fun x hx hxb => by
                  have hb := ok.back i l.toArray[i] (by rw [take_get l hi]; exact Array.getElem?_eq_getElem hio) x hx hxb
                  exact ihh x.on hb (by omega)⟩
                rw [he] at this; cases this
          rw [all j0 hj0] at hj0f; cases hj0f
        rw [show f + 1 + (l.length - n) = (f + (l.length - n)) + 1 by omega]
        refine ⟨fun he => absurd he hnonempty, fun i hi => ?_⟩
        have hin := hready i hi
        obtain ⟨o, ho, hf, hwt⟩ := ready_waits hi
        have hoH : (l.take n).toArray[i]? = some o := by rw [take_get l hin]; exact ho
        have hwtH : ∀ j, waits (l.take n).toArray i j = true → lis listed j = true := fun j hj => hwt j (by rw [← take_waits l hin]; exact hj)
        have hil : i < listed.size := by omega
        have hlook := Each.at each (j := i) (o := o) (by simpa using hoH)
        rw [Nat.zero_add] at hlook
        have hd := hlook.at hf hwtH hsh hw
        have hex := execOp_congr o (ok.sel i o hoH) (hst.reads ok hoH (show i ≤ n by omega) hwtH)
        rw [hfin γ] at hex
        have next : ∀ (γ' : Γ) (v : Value) (w' : World), (∀ j, lis listed j = true → (vs γ').getD j undef = (vs γ).getD j undef) → (o.dst ≠ none → v = (vs γ').getD i undef) → (∀ L', (∀ j, L' j = true ↔ (lis listed j = true ∨ j = i)) → WR γ' L' w') → wpAny P .any l.toArray Q (f + (l.length - n)) (listed.setIfInBounds i true) (a.put o.dst v) w' := by
          intro γ' v w' hsw hv hW
          have hst' := hst.swap hsw
          have hod : dstOf (l.take n).toArray i = o.dst := by simp only [dstOf, hoH, Option.bind_some]
          refine ih γ' _ _ _ (by simp [hsz]) (fun t h1 h2 => ?_) (by have := left_set (ops := (l.take n).toArray) hil (by omega) hf; omega) ?_ ?_ (hW _ (lis_set hil))
          · rw [getD_set_ne true (by omega)]; exact htl t h1 h2
          · rw [← hod]
            exact hst'.step ok (lis_set hil) fun d hd' => hv (by rw [← hod, hd']; simp)
          · intro x y hx hxy
            rcases (lis_set hil x).1 hx with hx | rfl
            · exact (lis_set hil y).2 (.inl (hsh x y hx hxy))
            · exact (lis_set hil y).2 (.inl (hwtH y hxy))
        unfold wpOp
        simp only [ho]
        rw [hst.wanted (all := l.toArray) ok hoH hwtH (fun g d hgd => by
          unfold dstOf at hgd ⊢
          obtain ⟨og, hog, hd⟩ := Option.bind_eq_some_iff.1 hgd
          have hgn : g < n := by have := (Array.getElem?_eq_some_iff.1 hog).1; omega
          rw [take_get l hgn] at hog
          rw [hog]; exact hd)]
        by_cases hwg : wantG (vs γ) o = true
        · rw [if_pos hwg] at hd ⊢
          have hdo : Does P o a.eval w (fun v w' => wpAny P .any l.toArray Q (f + (l.length - n)) (listed.setIfInBounds i true) (a.put o.dst v) w') := (Does.congr hex.symm hd).imp fun v w' ⟨γ', h1, h2, h3⟩ => next γ' v w' h1 h2 h3
          exact .inl hdo.wp
        · rw [if_neg hwg] at hd ⊢
          exact next γ _ _ (fun _ _ => rfl) hd.1 hd.2
      · have hl0 : left (l.take n).toArray listed ≤ f := by
          have : left (l.take n).toArray listed = 0 := by
            unfold left
            refine List.countP_eq_zero.2 fun j hj => ?_
            have hjn : j < n := by have := List.mem_range.1 hj; omega
            rcases Bool.eq_false_or_eq_true (lis listed j) with e | e
            · simp [e]
            · exact absurd ⟨j, hjn, e⟩ hun
          omega
        have := wpAny_more _ _ _ _ (ih γ listed a w hsz htl hl0 hst hsh hw)
        rw [show f + 1 + (l.length - n) = f + (l.length - n) + 1 by omega]; exact this
  have := key n γ0 (Array.replicate l.toArray.size false) base w.drew (by simp) (fun t _ ht => by simp [ht]) (by have := left_le (ops := (l.take n).toArray) (Array.replicate l.toArray.size false); omega) St.start' (fun i j h => by rw [lis_none] at h; cases h) (by
      have e : lis (Array.replicate l.toArray.size false) = fun _ => false := funext fun j => lis_none _ j
      rw [e]; exact h0)
  rw [show n + (l.length - n) = l.toArray.size by simp; omega] at this
  exact this
end Go.Proofs.YtlghkdkaifcliaaDoor
