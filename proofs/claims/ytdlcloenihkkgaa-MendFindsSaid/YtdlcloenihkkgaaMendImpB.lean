/-
  What Locator of package mend answers: for lists of up to a thousand numbers. The memory that was there stays.
-/
import Derived.Test.YtdlcloenihkkgaaMendImpA
namespace Go.Proofs.Ytdlcloenihkkgaa
open Go.RowKit Gf
set_option maxRecDepth 100000
/-- A product of x + a, back to front. -/
theorem rev_step {p : List UInt8} (ht : trim p = p) (hn : p ≠ []) (h0 : cf p 0 ≠ 0) {a : UInt8} (ha : a ≠ 0) : (pmul p [a, 1]).reverse = pmul p.reverse [1, a] := by
  have hl0 := List.length_pos_iff.2 hn
  have cr : ∀ (q : List UInt8) (i : Nat), i < q.length → cf q.reverse i = cf q (q.length - 1 - i) := fun q i hi => by
    rw [cf_lt (by rw [List.length_reverse]; exact hi), List.getElem_reverse, cf_lt]
  have htr : trim p.reverse = p.reverse := trim_self fun _ => by
    rw [List.length_reverse, cr p _ (by omega), show p.length - 1 - (p.length - 1) = 0 by omega]; exact h0
  have hnr : p.reverse ≠ [] := by simpa using hn
  have l1 := pmul_length (a := p) (b := [a, 1]) (by rw [ht]; exact hn) (by rw [trim_x]; simp)
  rw [ht, trim_x] at l1
  have l2 := pmul_length (a := p.reverse) (b := [1, a]) (by rw [htr]; exact hnr) (by rw [trim_1x ha]; simp)
  rw [htr, trim_1x ha, List.length_reverse] at l2
  simp only [List.length_cons, List.length_nil] at l1 l2
  have c1 : ∀ i, cf (pmul p [a, 1]) i = fm a (cf p i) ^^^ (if i = 0 then 0 else cf p (i - 1)) := fun i => by
    rw [cf_pmul, conv_comm]
    cases i with
    | zero => show sm 1 _ = _; simp only [sm, z_xor, if_true, xor_z]; rfl
    | succ i =>
      rw [conv, sm_front, sm_front, sm_zero fun j _ => by rw [show cf [a, 1] (j + 1 + 1) = 0 from rfl, zero_fm], xor_z, if_neg (by omega)]
      show fm a _ ^^^ fm 1 _ = _
      rw [one_fm]; rfl
  refine list_ext_cf (by rw [List.length_reverse]; omega) fun i hi => ?_
  rw [List.length_reverse] at hi
  rw [cr _ i hi, c1, cf_pmul, conv_comm, conv_1x]
  have e : (pmul p [a, 1]).length = p.length + 1 := by omega
  rw [e] at hi ⊢
  by_cases hi0 : i = 0
  · subst hi0
    rw [if_pos rfl, xor_z, cf_big (p := p) (by omega), fm_zero, z_xor, if_neg (by omega), cr p 0 (by omega)]
    congr 1
  · rw [if_neg hi0, cr p (i - 1) (by omega), show p.length - 1 - (i - 1) = p.length + 1 - 1 - i by omega, xor_c]
    congr 1
    by_cases hi1 : i = p.length
    · rw [if_pos (by omega), cf_big (by rw [List.length_reverse]; omega)]
    · rw [if_neg (by omega), cr p i (by omega)]
      congr 1; omega
theorem fold_rev (l : List UInt8) : ∀ p : List UInt8, (∀ a ∈ l, a ≠ 0) → trim p = p → p ≠ [] → cf p 0 ≠ 0 → (l.foldl (fun p a => pmul p [a, 1]) p).reverse = l.foldl (fun p a => pmul p [1, a]) p.reverse := by
  induction l with
  | nil => intro p _ _ _ _; rfl
  | cons a l ih =>
    intro p hz ht hn h0
    have ha := hz a (by simp)
    have l1 := pmul_length (a := p) (b := [a, 1]) (by rw [ht]; exact hn) (by rw [trim_x]; simp)
    rw [ht, trim_x] at l1
    simp only [List.length_cons, List.length_nil] at l1
    rw [List.foldl_cons, List.foldl_cons, ih _ (fun b hb => hz b (List.mem_cons_of_mem _ hb)) (pmul_trim _ _) (fun e => by rw [e] at l1; have := List.length_pos_iff.2 hn; simp only [List.length_nil] at l1; omega), rev_step ht hn h0 ha]
    rw [cf_pmul]
    show sm 1 _ ≠ 0
    simp only [sm, z_xor]
    exact fm_ne h0 ha
theorem roots_rev (L : List Int) : (proots (L.map px)).reverse = locs L := by
  rw [proots, fold_rev _ [1] (fun a ha => by obtain ⟨p, _, rfl⟩ := List.mem_map.1 ha; exact px_ne p) (trim_self fun _ => by decide) (by simp) (by decide), List.foldl_map]
  rfl
def zb : Array Value := Array.replicate 255 (.bool false)
theorem zero255 (w : World) : (zeroValue 48).run Try.prog w = .ok (.agg zb) w := by
  rw [Try.zeroValue48 w]
  have e : ∀ a b : Array Value, a.toList = b.toList → Result.ok (Value.agg a) w = .ok (.agg b) w := fun a b h => by rw [Array.ext' h]
  refine e _ _ ?_
  kernel_rfl
theorem alloc255 (w : World) : (Instr.alloc 48 true (.tuple #[])).run Try.prog w = .ok (.pointer (some ⟨w.heap.size, 0, none⟩)) (w.alloc (.cells zb 48)) := by
  simp only [Instr.alloc, Sem.run_bind, zero255, Result.andThen_ok]
  rfl
theorem wpList_a255 {ops : Array Oper} {rest : List Oper} {o : Oper} {a : Act} {w : World} {Q : Exit → Act → World → Prop} (hg : o.guard = none) (ho : o.op = .alloc 48)
    (h : wpList Try.prog ops Q rest (a.put o.dst (.pointer (some ⟨w.heap.size, 0, none⟩))) (w.alloc (.cells zb 48))) : wpList Try.prog ops Q (o :: rest) a w := by
  refine wpList_plain hg fun _ hK => ?_
  have e : (execOp a.eval o).run Try.prog w = .ok (.value (.pointer (some ⟨w.heap.size, 0, none⟩))) (w.alloc (.cells zb 48)) := by
    unfold execOp
    simp only [ho, Sem.run_bind, alloc255, Result.andThen_ok]
    rfl
  unfold Oper.wp
  rw [e, Oper.upon_value]
  exact hK _ _ h
/-- Block b holds, place by place, whether it is one of l. -/
structure Seen (b : Nat) (l : List Int) (W : World) : Prop where
  old : b < W.heap.size
  cell : ∀ i, i < 255 → W.cell? ⟨b, i, none⟩ = some (.bool (decide ((i : Int) ∈ l)))
  free : ∀ i, i < 255 → W.frozen? ⟨b, i, none⟩ = false
theorem Seen.start (w : World) : Seen w.heap.size [] (w.alloc (.cells zb 48)) := by
  refine ⟨by simp, fun i hi => ?_, fun i _ => World.frozen?_alloc_new _ _ _ _⟩
  rw [World.cell?_alloc_new]
  simp [zb, hi]
theorem Seen.below {b : Nat} {l : List Int} {w w' : World} (h : Seen b l w) (k : Below w.heap.size w w') : Seen b l w' :=
  ⟨Nat.lt_of_lt_of_le h.old k.size, fun i hi => (k.cell (p := ⟨b, i, none⟩) h.old).trans (h.cell i hi), fun i hi => (k.frozen (p := ⟨b, i, none⟩) h.old).trans (h.free i hi)⟩
theorem Seen.grown {b : Nat} {l : List Int} {w w' : World} {row : Option Nat} (h : Seen b l w) (hg : w.grownBy w' row) (hn : row ≠ some b) : Seen b l w' := by
  have e : w'.heap[b]? = w.heap[b]? := hg.block b h.old fun x => hn x.symm
  exact ⟨Nat.lt_of_lt_of_le h.old hg.size, fun i hi => (World.cell?_of_block (w := w) (a := ⟨b, i, none⟩) e).trans (h.cell i hi), fun i hi => (World.frozen?_of_block (w := w) (a := ⟨b, i, none⟩) e).trans (h.free i hi)⟩
theorem Seen.set {b : Nat} {l : List Int} {w : World} (h : Seen b l w) {k : Nat} (hk : k < 255) : Seen b (l ++ [(k : Int)]) (w.setCell ⟨b, k, none⟩ (.bool true)) := by
  refine ⟨by simpa [World.setCell] using h.old, fun i hi => ?_, fun i hi => by simp [h.free i hi]⟩
  by_cases e : i = k
  · subst e
    rw [World.cell?_setCell_same _ _ _ (h.cell i hi)]; simp
  · rw [World.cell?_setCell_other _ _ _ _ (by intro x; exact e (congrArg Addr.off x).symm), h.cell i hi]
    congr 2
    rw [decide_eq_decide, List.mem_append, List.mem_singleton]
    exact ⟨.inl, fun h => h.resolve_right (by omega)⟩
theorem Only.grow {b : Nat} {w0 w w' : World} {row : Option Nat} (h : Only b w0 w) (hg : w.grownBy w' row) (hr : ∀ k, row = some k → w0.heap.size ≤ k) : Only b w0 w' :=
  ⟨hg.os.trans h.os, hg.tape.trans h.tape, hg.output.trans h.output, Nat.le_trans h.size hg.size, fun k hk hn => (hg.block k (Nat.lt_of_lt_of_le hk h.size) fun e => by have := hr k e.symm; omega).trans (h.block k hk hn)⟩
/-- A row of the call's own stays, whatever is stored into a block that was there before. -/
theorem Own.other {w w' : World} {base b : Nat} {v : Value} {l : List UInt8} (h : Own w base v l) (k : Only b w w') (hb : b < base) : Own w' base v l := by
  obtain ⟨hl, h⟩ := h
  refine ⟨hl, ?_⟩
  rcases h with h | ⟨g, cap, cur, hv, hg, hh, h5⟩
  · exact .inl h
  · exact .inr ⟨g, cap, cur, hv, hg, (k.block g (Array.getElem?_eq_some_iff.1 hh).1 (by omega)).trans hh, h5⟩
theorem Own.on {w w' : World} {base : Nat} {v : Value} {l : List UInt8} (h : Own w base v l) (k : Below w.heap.size w w') : Own w' base v l := by
  obtain ⟨hl, h⟩ := h
  refine ⟨hl, ?_⟩
  rcases h with h | ⟨g, cap, cur, hv, hg, hh, h5⟩
  · exact .inl h
  · exact .inr ⟨g, cap, cur, hv, hg, (k.block g (Array.getElem?_eq_some_iff.1 hh).1).trans hh, h5⟩
def LocPost (w : World) (L : List Int) (e : Ending) (w' : World) : Prop :=
  ((OkP L L.length ∧ e = .returned (.tuple #[.string (st (locs L)), .int .i64 0])) ∨ (¬ OkP L L.length ∧ e = .returned (.tuple #[.string (st []), .int .i64 1]))) ∧ Keeps w w'
def lcRel (wB : World) (b : Nat) (L : List Int) (v i : Value) (wr : World) : Prop :=
  ∃ k : Nat, k ≤ L.length ∧ i = .int .i64 (k : Int) ∧ OkP L k ∧ Own wr wB.heap.size v ((L.take k).map px) ∧ Seen b (L.take k) wr ∧ Only b wB wr
theorem okp_le {L : List Int} {n m : Nat} (h : OkP L n) (hm : m ≤ n) : OkP L m := fun i hi => h i (by omega)
theorem okp_succ {L : List Int} {k : Nat} (h : OkP L k) (h0 : 0 ≤ L.getD k 0 ∧ L.getD k 0 ≤ 254) (hn : L.getD k 0 ∉ L.take k) (hk : k < L.length) : OkP L (k + 1) := by
  intro i hi
  by_cases e : i = k
  · subst e
    refine ⟨h0, fun j hj e => hn ?_⟩
    rw [← e]
    have : (L.take i).getD j 0 = L.getD j 0 := by rw [List.getD_eq_getElem?_getD, List.getD_eq_getElem?_getD, List.getElem?_take_of_lt hj]
    rw [← this]; exact getD_mem (by rw [List.length_take]; omega)
  · exact h i (by omega)
theorem okp_not_seen {L : List Int} {k : Nat} (h : OkP L (k + 1)) : L.getD k 0 ∉ L.take k := fun hm => by
  obtain ⟨j, hj, e⟩ := mem_getD hm
  rw [List.length_take] at hj
  have hjk : j < k := by omega
  rw [List.getD_eq_getElem?_getD, List.getElem?_take_of_lt hjk, ← List.getD_eq_getElem?_getD] at e
  exact (h k (by omega)).2 j hjk e
theorem take_nextI {L : List Int} {k : Nat} (h : k < L.length) : L.take (k + 1) = L.take k ++ [L.getD k 0] := by
  rw [List.take_succ_eq_append_getElem h, List.getD_eq_getElem?_getD, List.getElem?_eq_getElem h]; rfl
theorem ge_px {x : Int} (h0 : 0 ≤ x) (h1 : x ≤ 254) : ge (254 - x) = ((px x).toNat : Int) := by
  have := ge_pw (254 - x).toNat
  rw [Int.toNat_of_nonneg (by omega)] at this
  exact this
set_option maxHeartbeats 1600000 in
theorem mloc_full (a : Option Addr) (len cap : Nat) (L : List Int) (w : World) (hr : IsI w a len L) (hlen : len ≤ 1000) :
    Calls Try.prog 10 #[.slice a len cap] w (LocPost w L) := by
  have hl := hr.1
  have HR := Lib.hid hr
  clear hr
  go_enter Try.func10, Try.ntmps10
  go_wp2_with fail
  refine (new_any w).mono ?_
  rintro e w1 ⟨rfl, hf, hbel⟩
  have HF := Lib.hid (hf.below hf.old ((Below.refl _ w1).alloc (Nat.le_refl _) (.cells zb 48)))
  have HK := Lib.hid ((show Keeps w w1 from hbel).alloc (.cells zb 48))
  have hne : w.heap.size ≠ w1.heap.size := by have := hf.old; omega
  have HS := Lib.hid (Below.size hbel)
  have HSN := Lib.hid (Seen.start w1)
  have HZ := Lib.hid (show w1.heap.size < (w1.alloc (.cells zb 48)).heap.size by simp)
  have HZF := Lib.hid (show w.heap.size < (w1.alloc (.cells zb 48)).heap.size by have := hf.old; simp; omega)
  clear hf hbel
  go_wp2_with (refine wpList_a255 rfl rfl ?_)
  obtain ⟨fb, hfb⟩ : ∃ fb, w.heap.size = fb := ⟨_, rfl⟩
  obtain ⟨b, hb⟩ : ∃ b, w1.heap.size = b := ⟨_, rfl⟩
  obtain ⟨wB, hwB⟩ : ∃ wB, w1.alloc (.cells zb 48) = wB := ⟨_, rfl⟩
  rw [hwB] at HF HK HSN HZ HZF
  rw [hfb] at HF hne HS HZF
  rw [hb] at HSN hne HS HZ
  rw [hfb, hb, hwB]
  clear hb hwB
  go_loopw [6, 13] (fun v i wr => lcRel wB b L v i wr) (fun _ i _ => len - (intOf i).toNat)
  case atStart => exact ⟨0, Nat.zero_le _, rfl, (fun i hi => by cases hi), Own.nil _ _, HSN.out, Only.refl _ _⟩
  case round =>
    obtain ⟨k, hk, rfl, hok, hown, hseen, hon⟩ := hrel
    rw [hl] at hk
    have HOK := Lib.hid hok
    clear hok
    by_cases hlt : k < len
    · obtain ⟨g, off, rfl, hg, hc⟩ := (HR.out.kept (hon.keeps HK.out (by rw [hfb]; exact HS.out))).2 (by omega)
      have hck := hc k hlt
      have HT := Lib.hid (take_nextI (L := L) (k := k) (by omega))
      have HSU := Lib.hid (okp_succ (L := L) (k := k) HOK.out)
      have HNS := Lib.hid (okp_not_seen (L := L) (k := k))
      obtain ⟨x, hx⟩ : ∃ x, L.getD k 0 = x := ⟨_, rfl⟩
      rw [hx] at hck HT HSU HNS
      have HBD := Lib.hid (fun h : OkP L L.length => (h k (by omega)).1)
      rw [hx] at HBD
      have hkl : (k : Int) < (len : Int) := by omega
      clear hc hx
      have HKP := Lib.hid (hon.keeps HK.out (by rw [hfb]; exact HS.out))
      by_cases hx0 : x < 0
      · go_wp2
        go_ret2
        exact ⟨.inr ⟨fun h => by have := HBD.out h; omega, rfl⟩, HKP.out⟩
      by_cases hx1 : 254 < x
      · have hx2 : 255 ≤ x := by omega
        have hx3 : 0 ≤ x := by omega
        go_wp2
        go_ret2
        exact ⟨.inr ⟨fun h => by have := HBD.out h; omega, rfl⟩, HKP.out⟩
      obtain ⟨n, rfl⟩ : ∃ n : Nat, x = (n : Int) := ⟨x.toNat, by omega⟩
      have hn : n < 255 := by omega
      have hn2 : (n : Int) < 255 := by omega
      have hcn := hseen.cell n hn
      by_cases hm : (n : Int) ∈ L.take k
      · rw [decide_eq_true hm] at hcn
        go_wp2
        go_ret2
        exact ⟨.inr ⟨fun h => HNS.out (okp_le h (by omega)) hm, rfl⟩, HKP.out⟩
      · rw [decide_eq_false hm] at hcn
        have hfn := hseen.free n hn
        have HSE := Lib.hid (hseen.set hn)
        have HO1 := Lib.hid (hon.trans (Only.setCell wr ⟨b, n, none⟩ (.bool true)))
        have HOW := Lib.hid (hown.other (Only.setCell wr ⟨b, n, none⟩ (.bool true)) HZ.out)
        have hbo := hseen.old
        clear hseen hown
        go_wp2_with fail
        refine (mpower_any _ _ (by omega) (by omega)).mono ?_
        rintro e w2 ⟨rfl, rfl⟩
        go_wp2_with fail
        refine (fexp_any fb _ _ (HF.out.only hne HO1.out)).mono ?_
        rintro e w3 ⟨rfl, hb3⟩
        rw [ge_px (by omega) (by omega)]
        have hown3 := HOW.out.on hb3
        have HSE3 := Lib.hid (HSE.out.below hb3)
        have HO3 := Lib.hid (HO1.out.trans (Only.below hb3))
        have hbs := HO3.out.size
        have hlen3 : ((L.take k).map px).length ≤ 1000000000 := by rw [List.length_map, List.length_take]; omega
        clear hcn hfn hbo hb3
        go_wp2_with (at_builtin; refine wp_push8g rfl _ _ rfl (px n) rfl _ rfl hown3 rfl rfl hlen3 hbs ?_; intro v4 w4 hown4 hgr4 hbk4)
        go_roundw
        case rel =>
          refine ⟨k + 1, by omega, by go_num, HSU.out ⟨by omega, by omega⟩ hm (by omega), ?_, ?_, ?_⟩
          · rw [HT.out, List.map_append]; exact hown4
          · rw [HT.out]
            refine (HSE3.out.below ((Below.refl _ w3).alloc (Nat.le_refl _) _)).grown hgr4 fun e => ?_
            have := hown3.block _ e
            have := HZ.out
            omega
          · exact (HO3.out.trans (Only.alloc b w3 _)).grow hgr4 hown3.block
        case measure => simp [intOf]; omega
    · have hkl : (len : Int) ≤ (k : Int) := by omega
      have HE := Lib.hid (show L.take k = L from List.take_of_length_le (by omega))
      have HOKL := Lib.hid (show OkP L L.length from okp_le HOK.out (by omega))
      rw [HE.out] at hown
      have hcv := hown.text
      have HSZ := Lib.hid (show (st (L.map px)).size ≤ 10000 by rw [st_size, List.length_map]; omega)
      have HK1 := Lib.hid (hon.keeps HK.out (by rw [hfb]; exact HS.out))
      clear hseen hown hon
      go_wp2_with fail
      refine (proots_any w _ _ HSZ.out HK1.out).mono ?_
      rintro e w2 ⟨rfl, hk2⟩
      rw [ls_st]
      have HP := Lib.hid (roots_rev L)
      have HPL := Lib.hid (show (proots (L.map px)).length = L.length + 1 by rw [proots_length, List.length_map])
      obtain ⟨P, hP⟩ : ∃ P, proots (L.map px) = P := ⟨_, rfl⟩
      rw [hP] at HP HPL
      rw [hP]
      clear hP hcv
      have hps : (st P).size ≤ 10000 := by rw [st_size, HPL.out]; omega
      have hcb : ∀ W : World, _ := fun W => Lib.run_convert_string_bytes (P := Try.prog) W 9 34 5 (st P) Try.underlying9 Try.underlying34 Try.underlying5
      have HB2 := Lib.hid (Blk.bytes w2 (st P))
      have HK2 := Lib.hid (hk2.trans (Lib.bytesWorld_below w2 5 (st P)))
      have HS2 := Lib.hid (Below.size hk2)
      clear hk2
      go_wp2_with fail
      refine (reverse_any _ _ _ (ls (st P)) _ HB2.out (ls_size _) (by rw [← ls_size]; omega)).mono ?_
      rintro e w3 ⟨rfl, hb3, ho3⟩
      rw [ls_st, HP.out] at hb3
      have hcv := hb3.whole (grownCap w2 (st P).size 0 5) (n := (st P).size) (by rw [st_size, HPL.out, locs_length])
      clear hcb
      go_wp2
      go_ret2
      exact ⟨.inl ⟨HOKL.out, rfl⟩, ho3.keeps HK2.out HS2.out⟩
theorem mloc_any (a : Option Addr) (len cap : Nat) (L : List Int) (w : World) (hr : IsI w a len L) (hl : len ≤ 1000) (hok : OkP L L.length) :
    Calls Try.prog 10 #[.slice a len cap] w fun e w' => e = .returned (.tuple #[.string (st (locs L)), .int .i64 0]) ∧ Keeps w w' :=
  (mloc_full a len cap L w hr hl).mono fun _ _ ⟨h, k⟩ => ⟨h.elim (fun h => h.2) (fun h => absurd hok h.1), k⟩
theorem mloc_arg (a : Option Addr) (len cap : Nat) (L : List Int) (w : World) (hr : IsI w a len L) (hl : len ≤ 1000) (hok : ¬ OkP L L.length) :
    Calls Try.prog 10 #[.slice a len cap] w fun e w' => e = .returned (.tuple #[.string (st []), .int .i64 1]) ∧ Keeps w w' :=
  (mloc_full a len cap L w hr hl).mono fun _ _ ⟨h, k⟩ => ⟨h.elim (fun h => absurd h.1 hok) (fun h => h.2), k⟩
end Go.Proofs.Ytdlcloenihkkgaa
