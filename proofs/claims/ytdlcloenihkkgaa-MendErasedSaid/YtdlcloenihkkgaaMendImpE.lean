/-
  What turns of package mend answers: each place at which something was turned, and the byte that turned it, as a complex number. The memory that was there stays.
-/
import Derived.Laws.FloatArith
import Derived.WalkLawsBesides
import Derived.Test.YtdlcloenihkkgaaMendImpD
namespace Go.Proofs.Ytdlcloenihkkgaa
open Go.RowKit Go.Shelf Gf
set_option maxRecDepth 100000
/-- A small number as a float. -/
def fl (n : Nat) : Nat := FloatKind.f64.nearest (n : Int)
theorem fl_chk : allB 256 (fun n => decide (floatToIntVal .f64 (fl n) .i64 = some (n : Int)) && decide (floatToIntVal .f64 (fl n) .u8 = some (n : Int))) = true := by kernel_rfl
theorem fl_int {n : Nat} (h : n < 256) : floatToIntVal .f64 (fl n) .i64 = some (n : Int) ∧ floatToIntVal .f64 (fl n) .u8 = some (n : Int) := by
  have := allB_at fl_chk h
  simpa only [Bool.and_eq_true, decide_eq_true_eq] using this
theorem toF (n : Nat) (W : World) : (convert 3 74 (.int .i64 (n : Int))).run Try.prog W = .ok (.float .f64 (fl n)) W :=
  run_convert_int_float W 3 74 .i64 .f64 (n : Int) (by rw [Try.underlying3]; rfl) Try.underlying74
theorem toF8 (n : Nat) (W : World) : (convert 5 74 (.int .u8 (n : Int))).run Try.prog W = .ok (.float .f64 (fl n)) W :=
  run_convert_int_float W 5 74 .u8 .f64 (n : Int) (by rw [Try.underlying5]; rfl) Try.underlying74
theorem ofF {n : Nat} (h : n < 256) (W : World) : (convert 74 3 (.float .f64 (fl n))).run Try.prog W = .ok (.int .i64 (n : Int)) W :=
  run_convert_float_int W 74 3 .f64 .i64 (fl n) (n : Int) (by rw [Try.underlying74]; rfl) Try.underlying3 (fl_int h).1
theorem ofF8 {n : Nat} (h : n < 256) (W : World) : (convert 74 5 (.float .f64 (fl n))).run Try.prog W = .ok (.int .u8 (n : Int)) W :=
  run_convert_float_int W 74 5 .f64 .u8 (fl n) (n : Int) (by rw [Try.underlying74]; rfl) Try.underlying5 (fl_int h).2
/-- A place and its byte. -/
def C (q : UInt8 × Int) : Value := .complex .f64 (fl q.2.toNat) (fl q.1.toNat)
/-- A row of such numbers of the call's own. -/
def OwnC (w : World) (base : Nat) (v : Value) (l : List (UInt8 × Int)) : Prop := w.ownsRow base 73 1 v l.length (l.map C)
theorem OwnC.nil (w : World) (base : Nat) : OwnC w base (.slice none 0 0) [] := World.ownsRow_nil _ _ _ _
theorem infoC : (Try.prog.info? 73).map (fun i => (i.zero, i.size, i.bytes)) = some (some (.complex .f64 0 0), 1, 16) := by kernel_rfl
theorem OwnC.block {w : World} {base : Nat} {v : Value} {l : List (UInt8 × Int)} (h : OwnC w base v l) : ∀ k, v.ownBlock = some k → base ≤ k := by
  intro k hk
  obtain ⟨_, h⟩ := h
  rcases h with ⟨rfl, _⟩ | ⟨g, cap, cur, rfl, hb, _⟩
  · simp [Value.ownBlock] at hk
  · simp [Value.ownBlock] at hk; omega
theorem OwnC.kept {w w' : World} {base : Nat} {v : Value} {l : List (UInt8 × Int)} (h : OwnC w base v l) (k : Keeps w w') : OwnC w' base v l := by
  obtain ⟨hl, h⟩ := h
  refine ⟨hl, ?_⟩
  rcases h with h | ⟨g, cap, cur, hv, hg, hh, h5⟩
  · exact .inl h
  · exact .inr ⟨g, cap, cur, hv, hg, (Below.block k g (Array.getElem?_eq_some_iff.1 hh).1).trans hh, h5⟩
theorem OwnC.base {w : World} {base base' : Nat} {v : Value} {l : List (UInt8 × Int)} (h : OwnC w base v l) (hb : base' ≤ base) : OwnC w base' v l := by
  obtain ⟨hl, h⟩ := h
  refine ⟨hl, ?_⟩
  rcases h with h | ⟨g, cap, cur, hv, hg, h5⟩
  · exact .inl h
  · exact .inr ⟨g, cap, cur, hv, Nat.le_trans hb hg, h5⟩
theorem OwnC.cells {w : World} {base : Nat} {v : Value} {l : List (UInt8 × Int)} (h : OwnC w base v l) : ∃ a cap, v = .slice a l.length cap ∧ (0 < l.length → ∃ g, a = some ⟨g, 0, none⟩ ∧ g < w.heap.size ∧ ∀ i, (hi : i < l.length) → w.cell? ⟨g, i, none⟩ = some (C l[i])) := by
  obtain ⟨hl, h⟩ := h
  rcases h with ⟨rfl, h0⟩ | ⟨g, cap, cur, rfl, hb, hh, hn, hc, hsz, htake⟩
  · refine ⟨none, 0, by rw [h0], fun h => by omega⟩
  · refine ⟨_, cap, rfl, fun _ => ⟨g, rfl, (Array.getElem?_eq_some_iff.1 hh).1, fun i hi => ?_⟩⟩
    have h1 : cur.toList[i]? = some (C l[i]) := by
      have h2 : (cur.toList.take (l.length * 1))[i]? = (l.map C)[i]? := by rw [htake]
      rw [List.getElem?_take_of_lt (by omega)] at h2
      rw [h2, List.getElem?_map, List.getElem?_eq_getElem hi]; rfl
    have h4 : w.cell? ⟨g, i, none⟩ = cur[i]? := by simp [World.cell?, hh]
    rw [h4, ← Array.getElem?_toList, h1]
/-- 'v = append(v, y)', v a row of such numbers of the call's own (of what was made since w0). -/
theorem wp_pushC {ops : Array Oper} {rest : List Oper} {o : Oper} {a : Act} {Q : Exit → Act → World → Prop} {wr : World} (hgd : o.guard = none) (s x : Operand)
    (ho : o.op = .call { callee := .builtin .append, args := #[s, x], argTypes := #[57, 57] }) {w0 : World} {v : Value} {l : List (UInt8 × Int)} (y : UInt8 × Int) {yv : Value} (hy : yv = C y) (hown : OwnC wr w0.heap.size v l)
    (hs : a.eval s = v) (hx : a.eval x = .slice (some ⟨wr.heap.size, 0, none⟩) 1 1) (hl : l.length ≤ 1000000000) (hk : Keeps w0 wr)
    (h : ∀ v' w', OwnC w' w0.heap.size v' (l ++ [y]) → Keeps w0 w' → wpList Try.prog ops Q rest (a.put o.dst v') w') :
    wpList Try.prog ops Q (o :: rest) a (wr.alloc (.cells #[yv] 73)) := by
  subst hy
  obtain ⟨i0, hi, hz0, hz1, hz2⟩ := info_parts infoC
  have hsz := Below.size hk
  have hown0 : wr.ownsRow w0.heap.size 73 1 v l.length (l.map C) := hown
  refine wpList_append_own _ hgd s x 57 ho w0.heap.size 73 i0 (.complex .f64 0 0) 1 16 Try.underlying57 hi hz0 hz1 hz2 rfl (by decide) v l.length (l.map C) hs (hown0.alloc _)
    ⟨wr.heap.size, 0, none⟩ 1 1 [C y] hx rfl ?_ ?_ ?_ ?_ ?_ ?_
  · intro j u hj
    match j, hj with
    | 0, hj => simp at hj; subst hj; simp [Addr.add]
  · intro u hu; simp at hu; subst hu; rfl
  · unfold maxLen; omega
  · omega
  · simp; omega
  · intro v' w' h1 h2 _
    refine h v' w' ?_ ?_
    · unfold OwnC; rw [List.length_append, List.map_append]; exact h1
    · exact Below.grown (Below.alloc hk hsz _) h2 (by simp; omega) hown.block
def trRel (wB : World) (S : List UInt8) (A : List Int) (v i : Value) (wr : World) : Prop :=
  ∃ k : Nat, k ≤ A.length ∧ i = .int .i64 (k : Int) ∧ OwnC wr wB.heap.size v (trn S A (A.take k)) ∧ Keeps wB wr
def TrnPost (w : World) (S : List UInt8) (A : List Int) (e : Ending) (w' : World) : Prop := ∃ v, e = .returned v ∧ OwnC w' w.heap.size v (trn S A A) ∧ Keeps w w'
theorem trn_length (S : List UInt8) (A B : List Int) : (trn S A B).length ≤ B.length := by
  unfold trn
  refine Nat.le_trans (List.length_filter_le _ _) ?_
  rw [List.length_map]; exact Nat.le_refl _
theorem trn_next (S : List UInt8) {A : List Int} {k : Nat} (h : k < A.length) : trn S A (A.take (k + 1)) = trn S A (A.take k) ++ (if byAt S A (A.getD k 0) = 0 then [] else [(byAt S A (A.getD k 0), A.getD k 0)]) := by
  unfold trn
  rw [take_nextI h, List.map_append, List.filter_append]
  congr 1
  generalize A.getD k 0 = p
  by_cases e : byAt S A p = 0
  · rw [if_pos e, List.map_cons, List.map_nil, List.filter_cons, if_neg (by simp [e])]; rfl
  · rw [if_neg e, List.map_cons, List.map_nil, List.filter_cons, if_pos (by simpa using e)]; rfl
set_option maxHeartbeats 1600000 in
theorem trn_any (a : Option Addr) (len cap : Nat) (S : List UInt8) (A : List Int) (w : World) (hr : IsI w a len A) (hlen : len ≤ 255) (hok : OkP A A.length) (hS : S.length ≤ 1000) :
    Calls Try.prog 35 #[.string (st S), .slice a len cap] w (TrnPost w S A) := by
  have hl := hr.1
  have HR := Lib.hid hr
  have HOK := Lib.hid hok
  have HSS := Lib.hid (show (st S).size ≤ 100000 by rw [st_size]; omega)
  have HLL := Lib.hid (show (st (locs A)).size ≤ 100000 by rw [st_size, locs_length]; omega)
  clear hr hok hS
  go_enter Try.func35, Try.ntmps35
  go_wp2_with fail
  refine (new_any w).mono ?_
  rintro e w1 ⟨rfl, hf, hbel⟩
  have hk1 : Keeps w w1 := hbel
  have hisA1 := HR.out.kept hk1
  go_wp2_with fail
  refine (mloc_any a len cap A w1 hisA1 (by omega) HOK.out).mono ?_
  rintro e w2 ⟨rfl, hk2⟩
  clear hisA1
  go_wp2_with fail
  refine (pslope_any w1 _ w2 HLL.out hk2).mono ?_
  rintro e w3 ⟨rfl, hk3⟩
  rw [ls_st]
  clear hk2
  go_wp2_with fail
  refine (pmul_any w1 _ _ w3 HSS.out HLL.out hk3).mono ?_
  rintro e w4 ⟨rfl, hk4⟩
  rw [ls_st, ls_st]
  have HML := Lib.hid (show (st (pmul S (locs A))).size ≤ 1000000 by
    rw [st_size]
    have h1 := HSS.out
    have h2 := HLL.out
    rw [st_size] at h1 h2
    have : (pmul S (locs A)).length ≤ S.length + (locs A).length := by rw [← pmul_trim]; exact trim_len_le fun i hi => by rw [cf_pmul]; exact pmul_upto _ _ i hi
    omega)
  clear hk3
  go_wp2_with fail
  refine (mlowest_any _ w4 HML.out).mono ?_
  rintro e w5 ⟨rfl, rfl⟩
  rw [ls_st]
  have HF := Lib.hid (hf.below hf.old hk4)
  have HK := Lib.hid (hk1.trans hk4)
  obtain ⟨fb, hfb⟩ : ∃ fb, w.heap.size = fb := ⟨_, rfl⟩
  rw [hfb] at HF
  rw [hfb]
  obtain ⟨SH, hSH⟩ : ∃ SH, (pmul S (locs A)).take 64 = SH := ⟨_, rfl⟩
  obtain ⟨SL, hSL⟩ : ∃ SL, pslope (locs A) = SL := ⟨_, rfl⟩
  rw [hSH, hSL]
  have HBY := Lib.hid (fun p : Int => show byAt S A p = fm (fm (px p) (pat SH (fi (px p)))) (fi (pat SL (fi (px p)))) by rw [← hSH, ← hSL]; rfl)
  have HSN := Lib.hid (fun p : Int => fun hp : p ∈ A => show pat SL (fi (px p)) ≠ 0 by
    rw [← hSL, locs_lam]
    exact slope_ne _ (pxs_nodup HOK.out) (fun X hX => by obtain ⟨r, _, e⟩ := List.mem_map.1 hX; rw [← e]; exact px_ne r) _ (List.mem_map.2 ⟨p, hp, rfl⟩))
  have HSHL := Lib.hid (show (st SH).size ≤ 100000 by rw [st_size, ← hSH, List.length_take]; omega)
  have HSLL := Lib.hid (show (st SL).size ≤ 100000 by
    have h2 := HLL.out
    rw [st_size] at h2 ⊢
    rw [← hSL]
    have : (pslope (locs A)).length ≤ (locs A).length - 1 := by rw [← pslope_trim]; exact trim_len_le fun i hi => by rw [cf_pslope]; exact slope_upto (cf_upto _) i hi
    omega)
  clear hf hbel hk1 hk4 hSH hSL
  go_wp2
  go_loopw [10, 30] (fun v i wr => trRel w4 S A v i wr) (fun _ i _ => len - (intOf i).toNat)
  case atStart => exact ⟨0, by omega, rfl, OwnC.nil _ _, Keeps.refl _⟩
  case round =>
    obtain ⟨k, hk, rfl, hown, hkp⟩ := hrel
    rw [hl] at hk
    by_cases hlt : k < len
    · obtain ⟨g, off, rfl, hg, hc⟩ := (HR.out.kept (HK.out.trans hkp)).2 (by omega)
      have hck := hc k hlt
      have HN := Lib.hid (trn_next S (A := A) (k := k) (by omega))
      have HM := Lib.hid (getD_mem (l := A) (k := k) (by omega))
      have hbd := (HOK.out k (by omega)).1
      have hle := trn_length S A (A.take k)
      rw [List.length_take] at hle
      obtain ⟨p, hp⟩ : ∃ p, A.getD k 0 = p := ⟨_, rfl⟩
      rw [hp] at hck HN HM hbd
      obtain ⟨n, rfl⟩ : ∃ n : Nat, p = (n : Int) := ⟨p.toNat, by omega⟩
      have hn : n ≤ 254 := by omega
      have HB := Lib.hid (HBY.out n)
      have HS := Lib.hid (HSN.out n HM.out)
      rw [HB.out] at HN
      have hkl : (k : Int) < (len : Int) := by omega
      have HFW := Lib.hid (HF.out.below HF.out.old hkp)
      obtain ⟨T, hT⟩ : ∃ T, trn S A (A.take k) = T := ⟨_, rfl⟩
      rw [hT] at hown hle HN
      clear hc hp hbd hT
      go_wp2_with fail
      refine (mpower_any _ _ (by omega) (by omega)).mono ?_
      rintro e w6 ⟨rfl, rfl⟩
      go_wp2_with fail
      refine (fexp_any fb _ _ HFW.out).mono ?_
      rintro e w6 ⟨rfl, hb6⟩
      rw [ge_px (by omega) (by omega)]
      have hk6 : Keeps wr w6 := hb6
      have HF6 := Lib.hid (HFW.out.below HFW.out.old hb6)
      have HX := Lib.hid (px_ne (n : Int))
      obtain ⟨X, hX⟩ : ∃ X, px (n : Int) = X := ⟨_, rfl⟩
      rw [hX] at HX HS HN
      rw [hX]
      clear hX hck hb6
      go_wp2_with fail
      refine (finv8 fb X w6 HF6.out HX.out).mono ?_
      rintro e w7 ⟨rfl, hb7⟩
      have hk7 : Keeps wr w7 := hk6.trans (show Keeps w6 w7 from hb7)
      have HF7 := Lib.hid (HF6.out.below HF6.out.old hb7)
      clear hb7 hk6
      obtain ⟨x, hx⟩ : ∃ x, fi X = x := ⟨_, rfl⟩
      rw [hx] at HS HN
      rw [hx]
      clear hx
      go_wp2_with fail
      refine (pat_any w7 _ x w7 HSHL.out (Keeps.refl _)).mono ?_
      rintro e w8 ⟨rfl, hk8⟩
      rw [ls_st]
      have HF8 := Lib.hid (HF7.out.below HF7.out.old hk8)
      have hk8' := hk7.trans hk8
      clear hk7 hk8
      obtain ⟨y, hy⟩ : ∃ y, pat SH x = y := ⟨_, rfl⟩
      rw [hy] at HN
      rw [hy]
      clear hy
      go_wp2_with fail
      refine (fmul8 fb X y w8 HF8.out).mono ?_
      rintro e w9 ⟨rfl, he9⟩
      have hk9 := hk8'.eqv he9
      have HF9 := Lib.hid (HF8.out.only (b := fb + 1) (by omega) (Only.eqv he9))
      clear hk8' he9
      obtain ⟨z, hz⟩ : ∃ z, fm X y = z := ⟨_, rfl⟩
      rw [hz] at HN
      rw [hz]
      clear hz
      go_wp2_with fail
      refine (pat_any w9 _ x w9 HSLL.out (Keeps.refl _)).mono ?_
      rintro e w10 ⟨rfl, hk10⟩
      rw [ls_st]
      have HF10 := Lib.hid (HF9.out.below HF9.out.old hk10)
      have hk10' := hk9.trans hk10
      clear hk9 hk10
      obtain ⟨u, hu⟩ : ∃ u, pat SL x = u := ⟨_, rfl⟩
      rw [hu] at HN HS
      rw [hu]
      clear hu
      go_wp2_with fail
      refine (finv8 fb u w10 HF10.out HS.out).mono ?_
      rintro e w11 ⟨rfl, hb11⟩
      have hk11 := hk10'.trans (show Keeps w10 w11 from hb11)
      have HF11 := Lib.hid (HF10.out.below HF10.out.old hb11)
      clear hb11 hk10'
      go_wp2_with fail
      refine (fmul8 fb z (fi u) w11 HF11.out).mono ?_
      rintro e w12 ⟨rfl, he12⟩
      have HK12 := Lib.hid (hk11.eqv he12)
      clear he12 hk11
      obtain ⟨b, hb⟩ : ∃ b, fm z (fi u) = b := ⟨_, rfl⟩
      rw [hb] at HN
      rw [hb]
      clear hb
      have HOW := Lib.hid (hown.kept HK12.out)
      have HKP := Lib.hid (hkp.trans HK12.out)
      clear hown hkp
      by_cases e0 : b = 0
      · subst e0
        rw [if_pos rfl, List.append_nil] at HN
        have hz : ((0 : UInt8).toNat : Int) = 0 := rfl
        rw [hz]
        go_wp2
        go_roundw
        case rel => exact ⟨k + 1, by omega, by go_num, by rw [HN.out]; exact HOW.out, HKP.out⟩
        case measure => simp [intOf]; omega
      · rw [if_neg e0] at HN
        have hz : ((b.toNat : Int) == 0) = false := by
          rw [beq_eq_false_iff_ne]
          intro h
          exact toNat_ne e0 (by omega)
        have hf1 := toF n
        have hf2 := toF8 b.toNat
        have hle2 : T.length ≤ 1000000000 := by omega
        have hkp2 := HKP.out
        go_wp2_with (at_builtin; refine wp_pushC rfl _ _ rfl (b, (n : Int)) rfl HOW.out rfl rfl hle2 hkp2 ?_; intro v5 w5 hown5 hkp5)
        go_roundw
        case rel => exact ⟨k + 1, by omega, by go_num, by rw [HN.out]; exact hown5, hkp5⟩
        case measure => simp [intOf]; omega
    · have hkl : (len : Int) ≤ (k : Int) := by omega
      have HE := Lib.hid (show A.take k = A from List.take_of_length_le (by omega))
      have HSZ := Lib.hid (Below.size HK.out)
      rw [HE.out] at hown
      go_wp2
      go_ret
      exact ⟨_, rfl, hown.base (by have := HSZ.out; omega), HK.out.trans hkp⟩
end Go.Proofs.Ytdlcloenihkkgaa
