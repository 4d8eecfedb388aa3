/-
  For any two numbers and any two floats TimesPlaces returns true: which place a byte of a table has, and which byte a place is, and both lead to one another; nothing that was there is changed. No condition.
-/
import Derived.Test.YtofnokikjfmfgaaRows
import Derived.Test.YtofnokikjfmfgaaTmE
namespace Go.Proofs.Ytofnokikjfmfgaa.timesPlaces
open Go.ChangeShapes Go.WideShapes Go.ChangeAt Go.RowKit Gf Tm Fl
set_option maxRecDepth 100000
set_option linter.unusedVariables false
theorem neq_of {a : Option Ordering} (h : (a == some .eq) = false) : (a != some .eq) = true := by rw [bne, h]; rfl
theorem neq_of2 {a : Option Ordering} (h : (a == some .eq) = true) : (a != some .eq) = false := by rw [bne, h]; rfl
theorem isN_off {x c j : Nat} (hc : c < 9007199254740992) (hj : j < 9007199254740992) (h : isN x j = true) (hne : c ≠ j) : isN x c = false := by
  cases e : isN x c with
  | false => rfl
  | true => exact absurd (isN_one hc hj e h) hne
def colRel (n : Nat) (c : Value) : Prop := ∃ k : Nat, k ≤ n ∧ c = .int .i64 (k : Int)
theorem zero_eq : FloatKind.f64.format.order 0 0 = some .eq := by decide
theorem self_eq {n : Nat} (h : n < 9007199254740992) : FloatKind.f64.format.order (fl n) (fl n) = some .eq := by
  have := isN_fl (a := n) (b := n) h h
  rw [decide_eq_true rfl] at this
  unfold isN at this
  exact eq_of_beq this
section
variable {P : Program} {H : Type} {enc : TypeId × Value → H} {w : World} {base fuel : Nat} {spare : Nat → Bool} {held : Bool} {t : TypeId} {cs : List Value} {x : DataW H × List MemPlace}
theorem trod_flt {k : FloatKind} (ht : P.underlying t = some (.float k)) (h : DataW.trod enc P w base spare held fuel t cs = some x) : ∃ n, cs = [.float k n] := by
  cases fuel with
  | zero => simp [DataW.trod] at h
  | succ n =>
    unfold DataW.trod at h
    rw [ht] at h
    split at h <;> simp_all
end
/-- An array of two floats, by value. -/
theorem open_flts {H : Type} {enc : TypeId × Value → H} {W : World} {r : Reach} {b0 base : Nat} {spare : Nat → Bool} {held : Bool} {v : Value} {d : DataW H} {p : List MemPlace}
    (hv : Value.okWide Try.prog W r b0 56 v) (h : DataW.Trod enc Try.prog W base spare held 56 v d p) : ∃ x y : Nat, v = .agg #[.float .f64 x, .float .f64 y] := by
  obtain ⟨cs, rfl, hsz, _⟩ : ∃ cs, v = .agg cs ∧ cs.size = Try.prog.cellsOf 56 ∧ Row.okWide Try.prog W r b0 56 cs := by
    simpa [Value.okWide, Try.underlying56] using hv
  obtain ⟨l⟩ := cs
  obtain ⟨fuel, hf⟩ := h
  obtain ⟨xs, m, _, _, _, hn, hxs⟩ := DataW.trod_array Try.underlying56 hf
  have cT : Try.prog.cellsOf 56 = 2 := by kernel_rfl
  have cE : Try.prog.cellsOf 55 = 1 := by kernel_rfl
  rw [cT] at hsz
  match l, hsz with
  | [u, v], _ =>
    have h0 := hxs 0 (by omega)
    have h1 := hxs 1 (by omega)
    rw [cE] at h0 h1
    rw [List.getElem?_eq_getElem (by omega)] at h0 h1
    obtain ⟨x, e0⟩ := trod_flt Try.underlying55 h0
    obtain ⟨y, e1⟩ := trod_flt Try.underlying55 h1
    obtain rfl : u = .float .f64 x := List.head_eq_of_cons_eq (show [u] = [Value.float .f64 x] from e0)
    obtain rfl : v = .float .f64 y := List.head_eq_of_cons_eq (show [v] = [Value.float .f64 y] from e1)
    exact ⟨x, y, rfl⟩
set_option maxHeartbeats 6400000 in
theorem off (r a : Int) (x y : Nat) (w : World) (h : ¬ tabR r) :
    Calls Try.prog 9 #[.int .i64 r, .int .i64 a, .agg #[.float .f64 x, .float .f64 y]] w fun e w' => e = .returned (.bool true) ∧ Below w.heap.size w w' := by
  obtain ⟨wA, hA⟩ : ∃ wA, w.alloc (.cells #[.float .f64 x, .float .f64 y] 56) = wA := ⟨_, rfl⟩
  have b0 : wA.cell? ⟨w.heap.size, 0, none⟩ = some (.float .f64 x) := by rw [← hA, World.cell?_alloc_new]; rfl
  have b1 : wA.cell? ⟨w.heap.size, 1, none⟩ = some (.float .f64 y) := by rw [← hA, World.cell?_alloc_new]; rfl
  have HK := Lib.hid (show Keeps w wA by rw [← hA]; exact (Keeps.refl w).alloc _)
  have HP := Lib.hid (fun W => tmplace_any r a W)
  unfold PlPost at HP
  rw [pl_arg h] at HP
  simp only [fl_zero] at HP
  have HT := Lib.hid (fun W => tmat_any r x y W)
  rw [att_arg h] at HT
  have HR := Lib.hid (fun W => rtmrows_any r false (decide_eq_false h) W)
  have hz := zero_eq
  clear h
  go_enter Try.func9, Try.ntmps9
  go_wp2_with (first | (go_at_call 27; refine (HP.out _).mono ?_; rintro _ w1 ⟨rfl, e1⟩; have HE1 := Lib.hid e1; have b0 := (e1.cell ⟨w.heap.size, 0, none⟩).trans b0; have b1 := (e1.cell ⟨w.heap.size, 1, none⟩).trans b1; clear e1) | (go_at_call 28; (with_reducible refine (HT.out _).mono ?_); rintro _ _ ⟨rfl, rfl⟩) | (go_at_call 29; refine (HR.out _).mono ?_; rintro _ _ ⟨rfl, rfl⟩) | (go_at_call 14; refine (awake9_any w _ (HK.out.eqv HE1.out)).mono ?_; rintro _ w9 ⟨rfl, k9⟩))
  go_ret
  exact ⟨rfl, k9⟩
set_option maxHeartbeats 25600000 in
theorem core (R : Nat) (a : Int) (x y : Nat) (w : World) (htab : tabR (R : Int)) :
    Calls Try.prog 9 #[.int .i64 (R : Int), .int .i64 a, .agg #[.float .f64 x, .float .f64 y]] w fun e w' => e = .returned (.bool true) ∧ Below w.heap.size w w' := by
  obtain ⟨wA, hA⟩ : ∃ wA, w.alloc (.cells #[.float .f64 x, .float .f64 y] 56) = wA := ⟨_, rfl⟩
  have b0 : wA.cell? ⟨w.heap.size, 0, none⟩ = some (.float .f64 x) := by rw [← hA, World.cell?_alloc_new]; rfl
  have b1 : wA.cell? ⟨w.heap.size, 1, none⟩ = some (.float .f64 y) := by rw [← hA, World.cell?_alloc_new]; rfl
  have HK := Lib.hid (show Keeps w wA by rw [← hA]; exact (Keeps.refl w).alloc _)
  have HP := Lib.hid (fun W => tmplace_any (R : Int) a W)
  unfold PlPost at HP
  have HT := Lib.hid (fun W => tmat_any (R : Int) x y W)
  have HR := Lib.hid (fun W => rtmrows_any (R : Int) true (decide_eq_true htab) W)
  have hz := zero_eq
  have hf := toFl
  have hR1 : R ≤ 1024 := by unfold tabR at htab; omega
  have hR0 : 256 ≤ R := by unfold tabR at htab; omega
  have hRi : (256 : Int) ≤ (R : Int) := by omega
  have hRj : (R : Int) ≤ 1024 := by omega
  have w191 := wrapI (a := 191 * (R : Int)) (by omega) (by omega)
  by_cases hin : 0 ≤ a ∧ a < 191 * (R : Int)
  · obtain ⟨a0, a1⟩ := id hin
    have hR00 : ¬ R = 0 := by omega
    obtain ⟨i0, hi0⟩ : ∃ i : Nat, a % (R : Int) = (i : Int) := ⟨(a % (R : Int)).toNat, by have := Int.emod_nonneg a (show (R : Int) ≠ 0 by omega); omega⟩
    obtain ⟨j0, hj0⟩ : ∃ j : Nat, a / (R : Int) = (j : Int) := ⟨(a / (R : Int)).toNat, by have := Int.ediv_nonneg a0 (show 0 ≤ (R : Int) by omega); omega⟩
    have hpl := pl_ok htab hin
    rw [hi0, hj0, Int.toNat_natCast, Int.toNat_natCast] at hpl
    rw [hpl] at HP
    have i1 : i0 < R := by have := Int.emod_lt_of_pos a (show 0 < (R : Int) by omega); omega
    have hdm := Int.mul_ediv_add_emod a (R : Int)
    rw [hi0, hj0, Int.mul_comm] at hdm
    have j1 : j0 < 191 := by
      have : (j0 : Int) * (R : Int) < 191 * (R : Int) := by omega
      have := Int.lt_of_mul_lt_mul_right this (by omega)
      omega
    have HT2 := Lib.hid (fun W => tmat_any (R : Int) (fl i0) (fl j0) W)
    rw [att_ok htab (by rw [Int.toNat_natCast]; exact wh_fl (by omega) i1) (wh_fl (by omega) j1), hdm] at HT2
    have hi0' : a.tmod (R : Int) = (i0 : Int) := by rw [Int.tmod_eq_emod_of_nonneg a0, hi0]
    have hj0' : a.tdiv (R : Int) = (j0 : Int) := by rw [Int.tdiv_eq_ediv_of_nonneg a0, hj0]
    have wi := wrapI (a := (i0 : Int)) (by omega) (by omega)
    have wj := wrapI (a := (j0 : Int)) (by omega) (by omega)
    have sX := self_eq (n := i0) (by omega)
    have sY := self_eq (n := j0) (by omega)
    clear hdm hpl hin
    cases ey : wh y 191 with
    | none =>
      have HNO := Lib.hid (wh_none ey)
      rw [att_col (x := x) htab ey] at HT
      clear ey
      go_enter Try.func9, Try.ntmps9
      go_wp2_with (first | (go_at_call 27; refine (HP.out _).mono ?_; rintro _ w1 ⟨rfl, e1⟩; have HE1 := Lib.hid e1; have b0 := (e1.cell ⟨w.heap.size, 0, none⟩).trans b0; have b1 := (e1.cell ⟨w.heap.size, 1, none⟩).trans b1; clear e1) | (go_at_call 28; (with_reducible refine (HT.out _).mono ?_); rintro _ _ ⟨rfl, rfl⟩) | (go_at_call 28; (with_reducible refine (HT2.out _).mono ?_); rintro _ _ ⟨rfl, rfl⟩) | (go_at_call 29; refine (HR.out _).mono ?_; rintro _ _ ⟨rfl, rfl⟩))
      refine wp_draw (by kernel_rfl) [.int .i64 0, .bool false, .bool false, .complex .f64 (fl i0) (fl j0), .int .i64 a, .int .i64 (R : Int), .int .i64 (i0 : Int), .float .f64 (fl i0), .int .i64 a, .int .i64 (R : Int), .int .i64 (j0 : Int), .float .f64 (fl j0), .complex .f64 (fl i0) (fl j0), .bool false, .bool false, .bool false, .int .i64 0, .bool false, .bool false, .bool false, .int .i64 a, .int .i64 a, .bool false, .bool false]
        (fun _ W => Eqv w1 W) rfl (by kernel_rfl) (fin := ?finK0) ?hfinK0 (Eqv.drew w1) ?eachK0 ?hendK0
      case hfinK0 => simp [seqA, dstOf, Act.put]; rfl
      case eachK0 =>
        refine ⟨?_, ?_, ?_, ?_, ?_, ?_, ?_, ?_, ?_, ?_, ?_, ?_, ?_, ?_, ?_, ?_, ?_, ?_, ?_, ?_, ?_, ?_, ?_, ?_, trivial⟩
        all_goals intro X w6 h0 hd hs hw
        all_goals unfold Does
        all_goals first | rw [if_pos (by rfl)] | skip
        all_goals go_simp
        all_goals exact fun L' k => hw
      case hendK0 =>
      intro LX w6 hL hw
      have b0 := (hw.cell ⟨w.heap.size, 0, none⟩).trans b0
      have b1 := (hw.cell ⟨w.heap.size, 1, none⟩).trans b1
      have HE6 := Lib.hid (HE1.out.trans hw)
      clear hw hL
      go_wp2
      go_loop [13, 14] (fun c _ => colRel 191 c) (fun c _ => 191 - (intOf c).toNat)
      case atStart => exact ⟨0, by omega, rfl⟩
      case round =>
        obtain ⟨c, hc, rfl⟩ := hrel
        by_cases hlt : c < 191
        · have hn := HNO.out c hlt
          unfold isN at hn
          have hcI : (c : Int) < 191 := by omega
          have hn2 := neq_of hn
          have HLT := Lib.hid hlt
          have wc := wrapI (a := (c : Int) + 1) (by omega) (by omega)
          clear hlt hc
          go_wp2
          go_round
          case rel => exact ⟨c + 1, by have := HLT.out; omega, by go_num⟩
          case measure => have := HLT.out; simp [intOf]; omega
        · have hcI : ¬ (c : Int) < 191 := by omega
          clear hlt hc
          go_wp2_with (go_at_call 14; refine (awake9_any w _ (HK.out.eqv HE6.out)).mono ?_; rintro _ w9 ⟨rfl, k9⟩)
          go_ret
          exact ⟨rfl, k9⟩
    | some j =>
      obtain ⟨hj, hjy⟩ := wh_some ey
      have HJN := Lib.hid (fun c (hc : c < 191) (hne : c ≠ j) => isN_off (x := y) (by omega) (by omega) hjy hne)
      unfold isN at hjy
      have hjy2 := neq_of2 hjy
      have HJ := Lib.hid hj
      cases ex : wh x R with
      | none =>
        have HXN := Lib.hid (wh_none ex)
        rw [att_row (y := y) htab (by rw [Int.toNat_natCast]; exact ex)] at HT
        clear ex ey
        go_enter Try.func9, Try.ntmps9
        go_wp2_with (first | (go_at_call 27; refine (HP.out _).mono ?_; rintro _ w1 ⟨rfl, e1⟩; have HE1 := Lib.hid e1; have b0 := (e1.cell ⟨w.heap.size, 0, none⟩).trans b0; have b1 := (e1.cell ⟨w.heap.size, 1, none⟩).trans b1; clear e1) | (go_at_call 28; (with_reducible refine (HT.out _).mono ?_); rintro _ _ ⟨rfl, rfl⟩) | (go_at_call 28; (with_reducible refine (HT2.out _).mono ?_); rintro _ _ ⟨rfl, rfl⟩) | (go_at_call 29; refine (HR.out _).mono ?_; rintro _ _ ⟨rfl, rfl⟩))
        refine wp_draw (by kernel_rfl) [.int .i64 0, .bool false, .bool false, .complex .f64 (fl i0) (fl j0), .int .i64 a, .int .i64 (R : Int), .int .i64 (i0 : Int), .float .f64 (fl i0), .int .i64 a, .int .i64 (R : Int), .int .i64 (j0 : Int), .float .f64 (fl j0), .complex .f64 (fl i0) (fl j0), .bool false, .bool false, .bool false, .int .i64 0, .bool false, .bool false, .bool false, .int .i64 a, .int .i64 a, .bool false, .bool false]
          (fun _ W => Eqv w1 W) rfl (by kernel_rfl) (fin := ?finK1) ?hfinK1 (Eqv.drew w1) ?eachK1 ?hendK1
        case hfinK1 => simp [seqA, dstOf, Act.put]; rfl
        case eachK1 =>
          refine ⟨?_, ?_, ?_, ?_, ?_, ?_, ?_, ?_, ?_, ?_, ?_, ?_, ?_, ?_, ?_, ?_, ?_, ?_, ?_, ?_, ?_, ?_, ?_, ?_, trivial⟩
          all_goals intro X w6 h0 hd hs hw
          all_goals unfold Does
          all_goals first | rw [if_pos (by rfl)] | skip
          all_goals go_simp
          all_goals exact fun L' k => hw
        case hendK1 =>
        intro LX w6 hL hw
        have b0 := (hw.cell ⟨w.heap.size, 0, none⟩).trans b0
        have b1 := (hw.cell ⟨w.heap.size, 1, none⟩).trans b1
        have HE6 := Lib.hid (HE1.out.trans hw)
        clear hw hL
        go_wp2
        go_loop [13, 14] (fun c _ => colRel 191 c) (fun c _ => 191 - (intOf c).toNat)
        case atStart => exact ⟨0, by omega, rfl⟩
        case round =>
          obtain ⟨c, hc, rfl⟩ := hrel
          by_cases hlt : c < 191
          · have hcI : (c : Int) < 191 := by omega
            have HLT := Lib.hid hlt
            have wc := wrapI (a := (c : Int) + 1) (by omega) (by omega)
            by_cases hcj : c = j
            · subst hcj
              clear hlt hc
              go_wp2
              go_loop [14] (fun r => colRel R r) (fun r => R - (intOf r).toNat)
              case atStart => exact ⟨0, by omega, rfl⟩
              case round =>
                obtain ⟨r, hr, rfl⟩ := hrel
                by_cases hlr : r < R
                · have hn := HXN.out r hlr
                  unfold isN at hn
                  have hrI : (r : Int) < (R : Int) := by omega
                  have HLR := Lib.hid hlr
                  have wr := wrapI (a := (r : Int) + 1) (by omega) (by omega)
                  clear hlr hr
                  go_wp2
                  go_round
                  case rel => exact ⟨r + 1, by have := HLR.out; omega, by go_num⟩
                  case measure => have := HLR.out; simp [intOf]; omega
                · have hrI : ¬ (r : Int) < (R : Int) := by omega
                  clear hlr hr
                  go_wp2
                  go_round
                  case rel => exact ⟨c + 1, by have := HLT.out; omega, by go_num⟩
                  case measure => have := HLT.out; simp [intOf]; omega
            · have hn := HJN.out c hlt hcj
              unfold isN at hn
              have hn2 := neq_of hn
              clear hlt hc hjy hjy2
              go_wp2
              go_round
              case rel => exact ⟨c + 1, by have := HLT.out; omega, by go_num⟩
              case measure => have := HLT.out; simp [intOf]; omega
          · have hcI : ¬ (c : Int) < 191 := by omega
            clear hlt hc
            go_wp2_with (go_at_call 14; refine (awake9_any w _ (HK.out.eqv HE6.out)).mono ?_; rintro _ w9 ⟨rfl, k9⟩)
            go_ret
            exact ⟨rfl, k9⟩
      | some i =>
        obtain ⟨hi, hix⟩ := wh_some ex
        have HIN := Lib.hid (fun c (hc : c < i) => isN_off (x := x) (by omega) (by omega) hix (show c ≠ i by omega))
        unfold isN at hix
        have HI := Lib.hid hi
        rw [att_ok htab (by rw [Int.toNat_natCast]; exact ex) ey] at HT
        obtain ⟨m, hm⟩ : ∃ m, (j : Int) * (R : Int) = m := ⟨_, rfl⟩
        have m1 : m ≤ 1000000 := by
          have : (j : Int) * (R : Int) ≤ 191 * (R : Int) := Int.mul_le_mul_of_nonneg_right (by omega) (by omega)
          omega
        have m0 : 0 ≤ m := hm ▸ Int.mul_nonneg (by omega) (by omega)
        rw [hm] at HT
        have wm := wrapI (a := m) (by omega) (by omega)
        have wm2 := wrapI (a := m + (i : Int)) (by omega) (by omega)
        clear ex ey
        go_enter Try.func9, Try.ntmps9
        go_wp2_with (first | (go_at_call 27; refine (HP.out _).mono ?_; rintro _ w1 ⟨rfl, e1⟩; have HE1 := Lib.hid e1; have b0 := (e1.cell ⟨w.heap.size, 0, none⟩).trans b0; have b1 := (e1.cell ⟨w.heap.size, 1, none⟩).trans b1; clear e1) | (go_at_call 28; (with_reducible refine (HT.out _).mono ?_); rintro _ _ ⟨rfl, rfl⟩) | (go_at_call 28; (with_reducible refine (HT2.out _).mono ?_); rintro _ _ ⟨rfl, rfl⟩) | (go_at_call 29; refine (HR.out _).mono ?_; rintro _ _ ⟨rfl, rfl⟩))
        refine wp_draw (by kernel_rfl) [.int .i64 0, .bool false, .bool false, .complex .f64 (fl i0) (fl j0), .int .i64 a, .int .i64 (R : Int), .int .i64 (i0 : Int), .float .f64 (fl i0), .int .i64 a, .int .i64 (R : Int), .int .i64 (j0 : Int), .float .f64 (fl j0), .complex .f64 (fl i0) (fl j0), .bool false, .bool false, .bool false, .int .i64 0, .bool false, .bool false, .bool false, .int .i64 a, .int .i64 a, .bool false, .bool false]
          (fun _ W => Eqv w1 W) rfl (by kernel_rfl) (fin := ?finK2) ?hfinK2 (Eqv.drew w1) ?eachK2 ?hendK2
        case hfinK2 => simp [seqA, dstOf, Act.put]; rfl
        case eachK2 =>
          refine ⟨?_, ?_, ?_, ?_, ?_, ?_, ?_, ?_, ?_, ?_, ?_, ?_, ?_, ?_, ?_, ?_, ?_, ?_, ?_, ?_, ?_, ?_, ?_, ?_, trivial⟩
          all_goals intro X w6 h0 hd hs hw
          all_goals unfold Does
          all_goals first | rw [if_pos (by rfl)] | skip
          all_goals go_simp
          all_goals exact fun L' k => hw
        case hendK2 =>
        intro LX w6 hL hw
        have b0 := (hw.cell ⟨w.heap.size, 0, none⟩).trans b0
        have b1 := (hw.cell ⟨w.heap.size, 1, none⟩).trans b1
        have HE6 := Lib.hid (HE1.out.trans hw)
        clear hw hL
        go_wp2
        go_loop [13, 14] (fun c _ => colRel j c) (fun c _ => 191 - (intOf c).toNat)
        case atStart => exact ⟨0, by omega, rfl⟩
        case round =>
          obtain ⟨c, hc, rfl⟩ := hrel
          have hcI : (c : Int) < 191 := by have := HJ.out; omega
          have wc := wrapI (a := (c : Int) + 1) (by omega) (by omega)
          by_cases hcj : c = j
          · subst hcj
            clear hc
            go_wp2
            go_loop [14] (fun r => colRel i r) (fun r => R - (intOf r).toNat)
            case atStart => exact ⟨0, by omega, rfl⟩
            case round =>
              obtain ⟨r, hr, rfl⟩ := hrel
              have hrI : (r : Int) < (R : Int) := by have := HI.out; omega
              have wr := wrapI (a := (r : Int) + 1) (by omega) (by omega)
              by_cases hri : r = i
              · subst hri
                clear hr
                go_wp2_with (go_at_call 14; refine (awake9_any w _ (HK.out.eqv HE6.out)).mono ?_; rintro _ w9 ⟨rfl, k9⟩)
                go_ret
                exact ⟨rfl, k9⟩
              · have hlr : r < i := by omega
                have hn := HIN.out r hlr
                unfold isN at hn
                have HLR := Lib.hid hlr
                clear hlr hr hri hix
                go_wp2
                go_round
                case rel => exact ⟨r + 1, by have := HLR.out; omega, by go_num⟩
                case measure => have := HLR.out; have := HI.out; simp [intOf]; omega
          · have hlt : c < j := by omega
            have hn := HJN.out c (by have := HJ.out; omega) hcj
            unfold isN at hn
            have hn2 := neq_of hn
            have HLT := Lib.hid hlt
            clear hlt hc hcj hjy hjy2
            go_wp2
            go_round
            case rel => exact ⟨c + 1, by have := HLT.out; omega, by go_num⟩
            case measure => have := HLT.out; have := HJ.out; simp [intOf]; omega
  · rw [pl_range htab hin] at HP
    simp only [fl_zero] at HP
    by_cases ha0 : a < 0
    · clear hin
      cases ey : wh y 191 with
      | none =>
        have HNO := Lib.hid (wh_none ey)
        rw [att_col (x := x) htab ey] at HT
        clear ey
        go_enter Try.func9, Try.ntmps9
        go_wp2_with (first | (go_at_call 27; refine (HP.out _).mono ?_; rintro _ w1 ⟨rfl, e1⟩; have HE1 := Lib.hid e1; have b0 := (e1.cell ⟨w.heap.size, 0, none⟩).trans b0; have b1 := (e1.cell ⟨w.heap.size, 1, none⟩).trans b1; clear e1) | (go_at_call 28; (with_reducible refine (HT.out _).mono ?_); rintro _ _ ⟨rfl, rfl⟩) | (go_at_call 29; refine (HR.out _).mono ?_; rintro _ _ ⟨rfl, rfl⟩))
        go_loop [13, 14] (fun c _ => colRel 191 c) (fun c _ => 191 - (intOf c).toNat)
        case atStart => exact ⟨0, by omega, rfl⟩
        case round =>
          obtain ⟨c, hc, rfl⟩ := hrel
          by_cases hlt : c < 191
          · have hn := HNO.out c hlt
            unfold isN at hn
            have hcI : (c : Int) < 191 := by omega
            have hn2 := neq_of hn
            have HLT := Lib.hid hlt
            have wc := wrapI (a := (c : Int) + 1) (by omega) (by omega)
            clear hlt hc
            go_wp2
            go_round
            case rel => exact ⟨c + 1, by have := HLT.out; omega, by go_num⟩
            case measure => have := HLT.out; simp [intOf]; omega
          · have hcI : ¬ (c : Int) < 191 := by omega
            clear hlt hc
            go_wp2_with (go_at_call 14; refine (awake9_any w _ (HK.out.eqv HE1.out)).mono ?_; rintro _ w9 ⟨rfl, k9⟩)
            go_ret
            exact ⟨rfl, k9⟩
      | some j =>
        obtain ⟨hj, hjy⟩ := wh_some ey
        have HJN := Lib.hid (fun c (hc : c < 191) (hne : c ≠ j) => isN_off (x := y) (by omega) (by omega) hjy hne)
        unfold isN at hjy
        have hjy2 := neq_of2 hjy
        have HJ := Lib.hid hj
        cases ex : wh x R with
        | none =>
          have HXN := Lib.hid (wh_none ex)
          rw [att_row (y := y) htab (by rw [Int.toNat_natCast]; exact ex)] at HT
          clear ex ey
          go_enter Try.func9, Try.ntmps9
          go_wp2_with (first | (go_at_call 27; refine (HP.out _).mono ?_; rintro _ w1 ⟨rfl, e1⟩; have HE1 := Lib.hid e1; have b0 := (e1.cell ⟨w.heap.size, 0, none⟩).trans b0; have b1 := (e1.cell ⟨w.heap.size, 1, none⟩).trans b1; clear e1) | (go_at_call 28; (with_reducible refine (HT.out _).mono ?_); rintro _ _ ⟨rfl, rfl⟩) | (go_at_call 29; refine (HR.out _).mono ?_; rintro _ _ ⟨rfl, rfl⟩))
          go_loop [13, 14] (fun c _ => colRel 191 c) (fun c _ => 191 - (intOf c).toNat)
          case atStart => exact ⟨0, by omega, rfl⟩
          case round =>
            obtain ⟨c, hc, rfl⟩ := hrel
            by_cases hlt : c < 191
            · have hcI : (c : Int) < 191 := by omega
              have HLT := Lib.hid hlt
              have wc := wrapI (a := (c : Int) + 1) (by omega) (by omega)
              by_cases hcj : c = j
              · subst hcj
                clear hlt hc
                go_wp2
                go_loop [14] (fun r => colRel R r) (fun r => R - (intOf r).toNat)
                case atStart => exact ⟨0, by omega, rfl⟩
                case round =>
                  obtain ⟨r, hr, rfl⟩ := hrel
                  by_cases hlr : r < R
                  · have hn := HXN.out r hlr
                    unfold isN at hn
                    have hrI : (r : Int) < (R : Int) := by omega
                    have HLR := Lib.hid hlr
                    have wr := wrapI (a := (r : Int) + 1) (by omega) (by omega)
                    clear hlr hr
                    go_wp2
                    go_round
                    case rel => exact ⟨r + 1, by have := HLR.out; omega, by go_num⟩
                    case measure => have := HLR.out; simp [intOf]; omega
                  · have hrI : ¬ (r : Int) < (R : Int) := by omega
                    clear hlr hr
                    go_wp2
                    go_round
                    case rel => exact ⟨c + 1, by have := HLT.out; omega, by go_num⟩
                    case measure => have := HLT.out; simp [intOf]; omega
              · have hn := HJN.out c hlt hcj
                unfold isN at hn
                have hn2 := neq_of hn
                clear hlt hc hjy hjy2
                go_wp2
                go_round
                case rel => exact ⟨c + 1, by have := HLT.out; omega, by go_num⟩
                case measure => have := HLT.out; simp [intOf]; omega
            · have hcI : ¬ (c : Int) < 191 := by omega
              clear hlt hc
              go_wp2_with (go_at_call 14; refine (awake9_any w _ (HK.out.eqv HE1.out)).mono ?_; rintro _ w9 ⟨rfl, k9⟩)
              go_ret
              exact ⟨rfl, k9⟩
        | some i =>
          obtain ⟨hi, hix⟩ := wh_some ex
          have HIN := Lib.hid (fun c (hc : c < i) => isN_off (x := x) (by omega) (by omega) hix (show c ≠ i by omega))
          unfold isN at hix
          have HI := Lib.hid hi
          rw [att_ok htab (by rw [Int.toNat_natCast]; exact ex) ey] at HT
          obtain ⟨m, hm⟩ : ∃ m, (j : Int) * (R : Int) = m := ⟨_, rfl⟩
          have m1 : m ≤ 1000000 := by
            have : (j : Int) * (R : Int) ≤ 191 * (R : Int) := Int.mul_le_mul_of_nonneg_right (by omega) (by omega)
            omega
          have m0 : 0 ≤ m := hm ▸ Int.mul_nonneg (by omega) (by omega)
          rw [hm] at HT
          have wm := wrapI (a := m) (by omega) (by omega)
          have wm2 := wrapI (a := m + (i : Int)) (by omega) (by omega)
          clear ex ey
          go_enter Try.func9, Try.ntmps9
          go_wp2_with (first | (go_at_call 27; refine (HP.out _).mono ?_; rintro _ w1 ⟨rfl, e1⟩; have HE1 := Lib.hid e1; have b0 := (e1.cell ⟨w.heap.size, 0, none⟩).trans b0; have b1 := (e1.cell ⟨w.heap.size, 1, none⟩).trans b1; clear e1) | (go_at_call 28; (with_reducible refine (HT.out _).mono ?_); rintro _ _ ⟨rfl, rfl⟩) | (go_at_call 29; refine (HR.out _).mono ?_; rintro _ _ ⟨rfl, rfl⟩))
          go_loop [13, 14] (fun c _ => colRel j c) (fun c _ => 191 - (intOf c).toNat)
          case atStart => exact ⟨0, by omega, rfl⟩
          case round =>
            obtain ⟨c, hc, rfl⟩ := hrel
            have hcI : (c : Int) < 191 := by have := HJ.out; omega
            have wc := wrapI (a := (c : Int) + 1) (by omega) (by omega)
            by_cases hcj : c = j
            · subst hcj
              clear hc
              go_wp2
              go_loop [14] (fun r => colRel i r) (fun r => R - (intOf r).toNat)
              case atStart => exact ⟨0, by omega, rfl⟩
              case round =>
                obtain ⟨r, hr, rfl⟩ := hrel
                have hrI : (r : Int) < (R : Int) := by have := HI.out; omega
                have wr := wrapI (a := (r : Int) + 1) (by omega) (by omega)
                by_cases hri : r = i
                · subst hri
                  clear hr
                  go_wp2_with (go_at_call 14; refine (awake9_any w _ (HK.out.eqv HE1.out)).mono ?_; rintro _ w9 ⟨rfl, k9⟩)
                  go_ret
                  exact ⟨rfl, k9⟩
                · have hlr : r < i := by omega
                  have hn := HIN.out r hlr
                  unfold isN at hn
                  have HLR := Lib.hid hlr
                  clear hlr hr hri hix
                  go_wp2
                  go_round
                  case rel => exact ⟨r + 1, by have := HLR.out; omega, by go_num⟩
                  case measure => have := HLR.out; have := HI.out; simp [intOf]; omega
            · have hlt : c < j := by omega
              have hn := HJN.out c (by have := HJ.out; omega) hcj
              unfold isN at hn
              have hn2 := neq_of hn
              have HLT := Lib.hid hlt
              clear hlt hc hcj hjy hjy2
              go_wp2
              go_round
              case rel => exact ⟨c + 1, by have := HLT.out; omega, by go_num⟩
              case measure => have := HLT.out; have := HJ.out; simp [intOf]; omega
    · have ha1 : 191 * (R : Int) ≤ a := by omega
      clear hin
      cases ey : wh y 191 with
      | none =>
        have HNO := Lib.hid (wh_none ey)
        rw [att_col (x := x) htab ey] at HT
        clear ey
        go_enter Try.func9, Try.ntmps9
        go_wp2_with (first | (go_at_call 27; refine (HP.out _).mono ?_; rintro _ w1 ⟨rfl, e1⟩; have HE1 := Lib.hid e1; have b0 := (e1.cell ⟨w.heap.size, 0, none⟩).trans b0; have b1 := (e1.cell ⟨w.heap.size, 1, none⟩).trans b1; clear e1) | (go_at_call 28; (with_reducible refine (HT.out _).mono ?_); rintro _ _ ⟨rfl, rfl⟩) | (go_at_call 29; refine (HR.out _).mono ?_; rintro _ _ ⟨rfl, rfl⟩))
        go_loop [13, 14] (fun c _ => colRel 191 c) (fun c _ => 191 - (intOf c).toNat)
        case atStart => exact ⟨0, by omega, rfl⟩
        case round =>
          obtain ⟨c, hc, rfl⟩ := hrel
          by_cases hlt : c < 191
          · have hn := HNO.out c hlt
            unfold isN at hn
            have hcI : (c : Int) < 191 := by omega
            have hn2 := neq_of hn
            have HLT := Lib.hid hlt
            have wc := wrapI (a := (c : Int) + 1) (by omega) (by omega)
            clear hlt hc
            go_wp2
            go_round
            case rel => exact ⟨c + 1, by have := HLT.out; omega, by go_num⟩
            case measure => have := HLT.out; simp [intOf]; omega
          · have hcI : ¬ (c : Int) < 191 := by omega
            clear hlt hc
            go_wp2_with (go_at_call 14; refine (awake9_any w _ (HK.out.eqv HE1.out)).mono ?_; rintro _ w9 ⟨rfl, k9⟩)
            go_ret
            exact ⟨rfl, k9⟩
      | some j =>
        obtain ⟨hj, hjy⟩ := wh_some ey
        have HJN := Lib.hid (fun c (hc : c < 191) (hne : c ≠ j) => isN_off (x := y) (by omega) (by omega) hjy hne)
        unfold isN at hjy
        have hjy2 := neq_of2 hjy
        have HJ := Lib.hid hj
        cases ex : wh x R with
        | none =>
          have HXN := Lib.hid (wh_none ex)
          rw [att_row (y := y) htab (by rw [Int.toNat_natCast]; exact ex)] at HT
          clear ex ey
          go_enter Try.func9, Try.ntmps9
          go_wp2_with (first | (go_at_call 27; refine (HP.out _).mono ?_; rintro _ w1 ⟨rfl, e1⟩; have HE1 := Lib.hid e1; have b0 := (e1.cell ⟨w.heap.size, 0, none⟩).trans b0; have b1 := (e1.cell ⟨w.heap.size, 1, none⟩).trans b1; clear e1) | (go_at_call 28; (with_reducible refine (HT.out _).mono ?_); rintro _ _ ⟨rfl, rfl⟩) | (go_at_call 29; refine (HR.out _).mono ?_; rintro _ _ ⟨rfl, rfl⟩))
          go_loop [13, 14] (fun c _ => colRel 191 c) (fun c _ => 191 - (intOf c).toNat)
          case atStart => exact ⟨0, by omega, rfl⟩
          case round =>
            obtain ⟨c, hc, rfl⟩ := hrel
            by_cases hlt : c < 191
            · have hcI : (c : Int) < 191 := by omega
              have HLT := Lib.hid hlt
              have wc := wrapI (a := (c : Int) + 1) (by omega) (by omega)
              by_cases hcj : c = j
              · subst hcj
                clear hlt hc
                go_wp2
                go_loop [14] (fun r => colRel R r) (fun r => R - (intOf r).toNat)
                case atStart => exact ⟨0, by omega, rfl⟩
                case round =>
                  obtain ⟨r, hr, rfl⟩ := hrel
                  by_cases hlr : r < R
                  · have hn := HXN.out r hlr
                    unfold isN at hn
                    have hrI : (r : Int) < (R : Int) := by omega
                    have HLR := Lib.hid hlr
                    have wr := wrapI (a := (r : Int) + 1) (by omega) (by omega)
                    clear hlr hr
                    go_wp2
                    go_round
                    case rel => exact ⟨r + 1, by have := HLR.out; omega, by go_num⟩
                    case measure => have := HLR.out; simp [intOf]; omega
                  · have hrI : ¬ (r : Int) < (R : Int) := by omega
                    clear hlr hr
                    go_wp2
                    go_round
                    case rel => exact ⟨c + 1, by have := HLT.out; omega, by go_num⟩
                    case measure => have := HLT.out; simp [intOf]; omega
              · have hn := HJN.out c hlt hcj
                unfold isN at hn
                have hn2 := neq_of hn
                clear hlt hc hjy hjy2
                go_wp2
                go_round
                case rel => exact ⟨c + 1, by have := HLT.out; omega, by go_num⟩
                case measure => have := HLT.out; simp [intOf]; omega
            · have hcI : ¬ (c : Int) < 191 := by omega
              clear hlt hc
              go_wp2_with (go_at_call 14; refine (awake9_any w _ (HK.out.eqv HE1.out)).mono ?_; rintro _ w9 ⟨rfl, k9⟩)
              go_ret
              exact ⟨rfl, k9⟩
        | some i =>
          obtain ⟨hi, hix⟩ := wh_some ex
          have HIN := Lib.hid (fun c (hc : c < i) => isN_off (x := x) (by omega) (by omega) hix (show c ≠ i by omega))
          unfold isN at hix
          have HI := Lib.hid hi
          rw [att_ok htab (by rw [Int.toNat_natCast]; exact ex) ey] at HT
          obtain ⟨m, hm⟩ : ∃ m, (j : Int) * (R : Int) = m := ⟨_, rfl⟩
          have m1 : m ≤ 1000000 := by
            have : (j : Int) * (R : Int) ≤ 191 * (R : Int) := Int.mul_le_mul_of_nonneg_right (by omega) (by omega)
            omega
          have m0 : 0 ≤ m := hm ▸ Int.mul_nonneg (by omega) (by omega)
          rw [hm] at HT
          have wm := wrapI (a := m) (by omega) (by omega)
          have wm2 := wrapI (a := m + (i : Int)) (by omega) (by omega)
          clear ex ey
          go_enter Try.func9, Try.ntmps9
          go_wp2_with (first | (go_at_call 27; refine (HP.out _).mono ?_; rintro _ w1 ⟨rfl, e1⟩; have HE1 := Lib.hid e1; have b0 := (e1.cell ⟨w.heap.size, 0, none⟩).trans b0; have b1 := (e1.cell ⟨w.heap.size, 1, none⟩).trans b1; clear e1) | (go_at_call 28; (with_reducible refine (HT.out _).mono ?_); rintro _ _ ⟨rfl, rfl⟩) | (go_at_call 29; refine (HR.out _).mono ?_; rintro _ _ ⟨rfl, rfl⟩))
          go_loop [13, 14] (fun c _ => colRel j c) (fun c _ => 191 - (intOf c).toNat)
          case atStart => exact ⟨0, by omega, rfl⟩
          case round =>
            obtain ⟨c, hc, rfl⟩ := hrel
            have hcI : (c : Int) < 191 := by have := HJ.out; omega
            have wc := wrapI (a := (c : Int) + 1) (by omega) (by omega)
            by_cases hcj : c = j
            · subst hcj
              clear hc
              go_wp2
              go_loop [14] (fun r => colRel i r) (fun r => R - (intOf r).toNat)
              case atStart => exact ⟨0, by omega, rfl⟩
              case round =>
                obtain ⟨r, hr, rfl⟩ := hrel
                have hrI : (r : Int) < (R : Int) := by have := HI.out; omega
                have wr := wrapI (a := (r : Int) + 1) (by omega) (by omega)
                by_cases hri : r = i
                · subst hri
                  clear hr
                  go_wp2_with (go_at_call 14; refine (awake9_any w _ (HK.out.eqv HE1.out)).mono ?_; rintro _ w9 ⟨rfl, k9⟩)
                  go_ret
                  exact ⟨rfl, k9⟩
                · have hlr : r < i := by omega
                  have hn := HIN.out r hlr
                  unfold isN at hn
                  have HLR := Lib.hid hlr
                  clear hlr hr hri hix
                  go_wp2
                  go_round
                  case rel => exact ⟨r + 1, by have := HLR.out; omega, by go_num⟩
                  case measure => have := HLR.out; have := HI.out; simp [intOf]; omega
            · have hlt : c < j := by omega
              have hn := HJN.out c (by have := HJ.out; omega) hcj
              unfold isN at hn
              have hn2 := neq_of hn
              have HLT := Lib.hid hlt
              clear hlt hc hcj hjy hjy2
              go_wp2
              go_round
              case rel => exact ⟨c + 1, by have := HLT.out; omega, by go_num⟩
              case measure => have := HLT.out; have := HJ.out; simp [intOf]; omega
theorem walk (r : Int) (hr : (Lit.int .i64 r).wf = true) (a : Int) (ha : (Lit.int .i64 a).wf = true) (x y : Nat) (w : World) :
    Calls Try.prog 9 #[.int .i64 r, .int .i64 a, .agg #[.float .f64 x, .float .f64 y]] w fun e w' => e = .returned (.bool true) ∧ Below w.heap.size w w' := by
  by_cases h : tabR r
  · obtain ⟨R, rfl⟩ : ∃ R : Nat, r = (R : Int) := ⟨r.toNat, by unfold tabR at h; omega⟩
    exact core R a x y w h
  · exact off r a x y w h


theorem own : ownKnob Try.prog.godebug = none := by kernel_rfl
theorem laidOut : laidOutB Try.prog = true := by kernel_rfl
set_option maxRecDepth 100000 in
theorem lifted (os : Os) (started : os.Started) (H : Type) (enc : TypeId × Value → H) :
    ReturnsInHanded {} Try.checked os 9 .any (Rows.timesPlacesSpec.pre6 enc Try.prog Try.f9 Rows.timesPlacesRow.domain false) (Rows.timesPlacesSpec.post enc Try.prog Try.f9 false true false false) := by
  refine returnsInHanded_of_change (C := Try.checked) own started (by kernel_rfl) Try.func9
    (ChangeSpec.witness6 (enc := enc) (C := Try.checked) false ⟨#[], #[.int .i64 0, .int .i64 0, .agg #[.float .f64 0, .float .f64 0]], []⟩ 8 (by kernel_rfl) (by kernel_rfl) (by kernel_rfl) (by kernel_rfl)) ?_
  intro W base args ds gs before hval0 hW hcnd _
  have hval : ∀ (j : Nat) t v, Try.f9.params[j]? = some t → args[j]? = some v → Value.okWide Try.prog W .any base t v := hval0
  have hW' := hW
  obtain ⟨p, q, hA0, hV, rfl, hfz, hnd⟩ := hW
  have hA : DataW.TrodAll enc Try.prog W 0 (fun _ => true) true Try.f9.params.toList args.toList ds p := hA0
  rw [Try.params9] at hA hval
  obtain ⟨v0, vs0, d0, ds0, p0, q0, hargs, rfl, rfl, h0, r0⟩ := trodAll_cons hA
  obtain ⟨v1, vs1, d1, ds1, p1, q1, rfl, rfl, rfl, h1, r1⟩ := trodAll_cons r0
  obtain ⟨v2, vs2, d2, ds2, p2, q2, rfl, rfl, rfl, h2, r2⟩ := trodAll_cons r1
  obtain ⟨rfl, rfl, rfl⟩ := trodAll_nil r2
  obtain rfl : args = #[v0, v1, v2] := by cases args; simp_all
  obtain ⟨rfl, rfl⟩ := trodVars_none hV
  obtain ⟨a0, rfl, rfl, rfl, w0⟩ := open_int Try.underlying3 (hval 0 3 v0 rfl rfl) h0
  obtain ⟨a1, rfl, rfl, rfl, w1⟩ := open_int Try.underlying3 (hval 1 3 v1 rfl rfl) h1
  have k2 := h2
  have lt2 : ∀ x ∈ p2, x.block < W.heap.size := by obtain ⟨m, hm⟩ := k2; exact DataW.trod_lt m _ _ _ hm
  obtain ⟨x2, y2, rfl⟩ := open_flts (hval 2 56 v2 rfl rfl) h2
  clear hA0 hval0
  refine (walk a0 w0 a1 w1 x2 y2 W).mono fun e W' ⟨he, bel⟩ => ?_
  subst he
  exact ⟨_, rfl, _, _, _, [], _, [], hW', trodAll_mk1 (shut_bool Try.underlying4 _), (trodAll_cons_mk (shut_int Try.underlying3 w0) (trodAll_cons_mk (shut_int Try.underlying3 w1) (trodAll_cons_mk (Below.trod laidOut (by kernel_rfl) (of_decide_eq_true (by kernel_rfl)) k2 bel lt2) trodAll_mk0))), rfl, bel.frame _, fun h => by cases h⟩

theorem over : Rows.timesPlacesRow.holds Try.pinned (OpenSpec.ofChange Rows.timesPlacesSpec) :=
  OpenClaim.holds_of_wide 9 Try.f9 rfl rfl rfl rfl rfl rfl rfl ⟨rfl, rfl, rfl, rfl, rfl⟩ rfl rfl rfl rfl rfl (by kernel_rfl) Try.func9 (by kernel_rfl)
    (of_decide_eq_true (by kernel_rfl)) (by unfold Func.isWrapper; first | (rw [if_pos (by decide +kernel)]; kernel_rfl) | (rw [if_neg (by decide +kernel)]; exact ⟨rfl, rfl⟩))
    (fun os started H enc _ => lifted os started H enc)

theorem proved : Rows.TimesPlacesSaid := over
#print axioms proved
end Go.Proofs.Ytofnokikjfmfgaa.timesPlaces
