/-
  What the document's In, Unlike and Locator of layer 4 answer, and 'ints' of the laws. The memory that was there stays.
-/
import Derived.Test.YtdlcloenihkkgaaMendRef
namespace Go.Proofs.Ytdlcloenihkkgaa
open Go.RowKit Gf
set_option maxRecDepth 100000
def inLRel (l : List Int) (n : Int) (i : Value) : Prop := ∃ k : Nat, k ≤ l.length ∧ i = .int .i64 k ∧ ∀ m, m < k → l.getD m 0 ≠ n
def inL (l : List Int) (n : Int) : Bool := decide (n ∈ l)
theorem getD_mem {l : List Int} {k : Nat} (h : k < l.length) : l.getD k 0 ∈ l := by
  rw [List.getD_eq_getElem?_getD, List.getElem?_eq_getElem h]; exact List.getElem_mem h
theorem mem_getD {l : List Int} {n : Int} (h : n ∈ l) : ∃ k, k < l.length ∧ l.getD k 0 = n := by
  obtain ⟨k, hk, e⟩ := List.getElem_of_mem h
  exact ⟨k, hk, by rw [List.getD_eq_getElem?_getD, List.getElem?_eq_getElem hk]; exact e⟩
set_option maxRecDepth 100000 in
set_option maxHeartbeats 1600000 in
theorem rin_any (a : Option Addr) (len cap : Nat) (l : List Int) (n : Int) (w : World) (hr : IsI w a len l) (hlen : len ≤ 1000000) :
    Calls Try.prog 22 #[.slice a len cap, .int .i64 n] w fun e w' => e = .returned (.bool (inL l n)) ∧ w = w' := by
  have hl := hr.1
  have HR := Lib.hid hr
  clear hr
  go_enter Try.func22, Try.ntmps22
  go_wp2
  go_loop [5] (fun i => inLRel l n i) (fun i => len - (intOf i).toNat)
  case atStart => exact ⟨0, Nat.zero_le _, rfl, (fun i hi => by cases hi)⟩
  case round =>
    obtain ⟨k, hk, rfl, hne⟩ := hrel
    rw [hl] at hk
    have HNE := Lib.hid hne
    clear hne
    by_cases hlt : k < len
    · obtain ⟨b, off, rfl, hb, hc⟩ := HR.out.2 (by omega)
      have hck := hc k hlt
      obtain ⟨x, hx⟩ : ∃ x, l.getD k 0 = x := ⟨_, rfl⟩
      rw [hx] at hck
      have HX := Lib.hid hx
      have hkl : (k : Int) < (len : Int) := by omega
      clear hc hx
      by_cases e : x = n
      · have HZ := Lib.hid (show inL l n = true from decide_eq_true (by rw [← e, ← HX.out]; exact getD_mem (by omega)))
        subst e
        go_wp2
        go_ret
        rw [HZ.out]
        exact ⟨rfl, rfl⟩
      · have hxn : (x == n) = false := by simpa using e
        go_wp2
        go_round
        case rel =>
          refine ⟨k + 1, by omega, by go_num, fun m hm => ?_⟩
          by_cases em : m = k
          · subst em; rw [HX.out]; exact e
          · exact HNE.out m (by omega)
        case measure => simp [intOf]; omega
    · have HZ := Lib.hid (show inL l n = false from decide_eq_false (fun h => by
        obtain ⟨m, hm, e⟩ := mem_getD h
        exact HNE.out m (by omega) e))
      have hkl : (len : Int) ≤ (k : Int) := by omega
      go_wp2
      go_ret
      rw [HZ.out]
      exact ⟨rfl, rfl⟩
/-- A row of numbers of the call's own. -/
def OwnI (w : World) (base : Nat) (v : Value) (l : List Int) : Prop := w.ownsRow base 3 1 v l.length (l.map (Value.int .i64))
theorem OwnI.nil (w : World) (base : Nat) : OwnI w base (.slice none 0 0) [] := World.ownsRow_nil _ _ _ _
theorem infoI : (Try.prog.info? 3).map (fun i => (i.zero, i.size, i.bytes)) = some (some (.int .i64 0), 1, 8) := by kernel_rfl
theorem OwnI.block {w : World} {base : Nat} {v : Value} {l : List Int} (h : OwnI w base v l) : ∀ k, v.ownBlock = some k → base ≤ k := by
  intro k hk
  obtain ⟨_, h⟩ := h
  rcases h with ⟨rfl, _⟩ | ⟨g, cap, cur, rfl, hb, _⟩
  · simp [Value.ownBlock] at hk
  · simp [Value.ownBlock] at hk; omega
theorem OwnI.isI {w : World} {base : Nat} {v : Value} {l : List Int} (h : OwnI w base v l) : ∃ a cap, v = .slice a l.length cap ∧ IsI w a l.length l := by
  obtain ⟨hl, h⟩ := h
  rcases h with ⟨rfl, h0⟩ | ⟨g, cap, cur, rfl, hb, hh, hn, hc, hsz, htake⟩
  · refine ⟨none, 0, by rw [h0], rfl, fun h => by omega⟩
  · refine ⟨_, cap, rfl, rfl, fun _ => ⟨g, 0, rfl, (Array.getElem?_eq_some_iff.1 hh).1, fun i hi => ?_⟩⟩
    have h1 : cur.toList[i]? = some (.int .i64 (l.getD i 0)) := by
      have h2 : (cur.toList.take (l.length * 1))[i]? = (l.map (Value.int .i64))[i]? := by rw [htake]
      rw [List.getElem?_take_of_lt (by omega)] at h2
      rw [h2, List.getElem?_map, List.getElem?_eq_getElem hi, List.getD_eq_getElem?_getD, List.getElem?_eq_getElem hi]; rfl
    rw [Nat.zero_add]
    have h4 : w.cell? ⟨g, i, none⟩ = cur[i]? := by simp [World.cell?, hh]
    rw [h4, ← Array.getElem?_toList, h1]
theorem OwnI.eqv {w w' : World} {base : Nat} {v : Value} {l : List Int} (h : OwnI w base v l) (e : Eqv w w') : OwnI w' base v l := by
  obtain ⟨hl, h⟩ := h
  refine ⟨hl, ?_⟩
  rcases h with h | ⟨g, cap, cur, hv, hb, hh, h5⟩
  · exact .inl h
  · exact .inr ⟨g, cap, cur, hv, hb, by rw [e.heap]; exact hh, h5⟩
/-- 'v = append(v, y)', v a row of numbers of the call's own (of what was made since w0). -/
theorem wp_pushI {ops : Array Oper} {rest : List Oper} {o : Oper} {a : Act} {Q : Exit → Act → World → Prop} {wr : World} (hgd : o.guard = none) (s x : Operand)
    (ho : o.op = .call { callee := .builtin .append, args := #[s, x], argTypes := #[22, 22] }) {w0 : World} {v : Value} {l : List Int} (y : Int) (hown : OwnI wr w0.heap.size v l)
    (hs : a.eval s = v) (hx : a.eval x = .slice (some ⟨wr.heap.size, 0, none⟩) 1 1) (hl : l.length ≤ 1000000000) (hk : Keeps w0 wr)
    (h : ∀ v' w', OwnI w' w0.heap.size v' (l ++ [y]) → Keeps w0 w' → wpList Try.prog ops Q rest (a.put o.dst v') w') :
    wpList Try.prog ops Q (o :: rest) a (wr.alloc (.cells #[.int .i64 y] 3)) := by
  obtain ⟨i0, hi, hz0, hz1, hz2⟩ := info_parts infoI
  have hsz := Below.size hk
  have hown0 : wr.ownsRow w0.heap.size 3 1 v l.length (l.map (Value.int .i64)) := hown
  refine wpList_append_own _ hgd s x 22 ho w0.heap.size 3 i0 (.int .i64 0) 1 8 Try.underlying22 hi hz0 hz1 hz2 rfl (by decide) v l.length (l.map (Value.int .i64)) hs (hown0.alloc _)
    ⟨wr.heap.size, 0, none⟩ 1 1 [.int .i64 y] hx rfl ?_ ?_ ?_ ?_ ?_ ?_
  · intro j u hj
    match j, hj with
    | 0, hj => simp at hj; subst hj; simp [Addr.add]
  · intro u hu; simp at hu; subst hu; rfl
  · unfold maxLen; omega
  · omega
  · simp; omega
  · intro v' w' h1 h2 _
    refine h v' w' ?_ ?_
    · unfold OwnI; rw [List.length_append, List.map_append]; exact h1
    · exact Below.grown (Below.alloc hk hsz _) h2 (by simp; omega) hown.block
/-- At which of the first n places two texts are unlike. -/
def unl (a b : List UInt8) : Nat → List Int
  | 0 => []
  | n + 1 => unl a b n ++ (if cf a n = cf b n then [] else [(n : Int)])
def unlAll (a b : List UInt8) : List Int := unl a b a.length
theorem unl_length (a b : List UInt8) : ∀ n, (unl a b n).length ≤ n
  | 0 => Nat.le_refl _
  | n + 1 => by
    have := unl_length a b n
    unfold unl
    rw [List.length_append]
    split <;> simp <;> omega
def unlRel (w : World) (a b : List UInt8) (v i : Value) (wr : World) : Prop := ∃ k : Nat, k ≤ a.length ∧ i = .int .i64 k ∧ OwnI wr w.heap.size v (unl a b k) ∧ Keeps w wr
set_option maxRecDepth 100000 in
set_option maxHeartbeats 1600000 in
theorem runlike_any (x y : ByteArray) (w : World) (hx : x.size ≤ 1000000) (hxy : x.size ≤ y.size) :
    Calls Try.prog 20 #[.string x, .string y] w fun e w' => ∃ v, e = .returned v ∧ OwnI w' w.heap.size v (unlAll (ls x) (ls y)) ∧ Keeps w w' := by
  go_enter Try.func20, Try.ntmps20
  go_wp2
  go_loopw [5, 6] (fun v i wr => unlRel w (ls x) (ls y) v i wr) (fun _ i _ => x.size - (intOf i).toNat)
  case atStart => exact ⟨0, Nat.zero_le _, rfl, OwnI.nil _ _, Keeps.refl w⟩
  case round =>
    obtain ⟨k, hk, rfl, hown, hkp⟩ := hrel
    rw [← ls_size] at hk
    by_cases hlt : k < x.size
    · have hgx := ls_get x k hlt
      have hgy := ls_get y k (by omega)
      have hkx : (k : Int) < (x.size : Int) := by omega
      have hky : (k : Int) < (y.size : Int) := by omega
      have hle := unl_length (ls x) (ls y) k
      have HU := Lib.hid (show unl (ls x) (ls y) (k + 1) = unl (ls x) (ls y) k ++ (if cf (ls x) k = cf (ls y) k then [] else [(k : Int)]) from rfl)
      obtain ⟨U, hU⟩ : ∃ U, unl (ls x) (ls y) k = U := ⟨_, rfl⟩
      rw [hU] at hown hle HU
      obtain ⟨p, hp⟩ : ∃ p, cf (ls x) k = p := ⟨_, rfl⟩
      obtain ⟨q, hq⟩ : ∃ q, cf (ls y) k = q := ⟨_, rfl⟩
      rw [hp] at hgx HU
      rw [hq] at hgy HU
      clear hU hp hq
      by_cases e : p = q
      · rw [if_pos e, List.append_nil] at HU
        subst e
        go_wp2
        go_quiet (fail)
        go_wp2
        go_roundw
        case rel => exact ⟨k + 1, by rw [← ls_size]; omega, by go_num, by rw [HU.out]; exact hown.eqv (eqv_drewN _ _), hkp.trans (below_drewN (Below.refl _ _) _)⟩
        case measure => simp [intOf]; omega
      · rw [if_neg e] at HU
        have hpq : ((p.toNat : Int) == (q.toNat : Int)) = false := by
          rw [beq_eq_false_iff_ne]
          intro h
          exact e (UInt8.toNat_inj.1 (by omega))
        have HOW := Lib.hid hown
        have hle2 : U.length ≤ 1000000000 := by omega
        clear hown
        go_wp2
        go_quiet (fail)
        have hown1 := HOW.out.eqv (eqv_drewN wr nq)
        have hkp1 : Keeps w (wr.drewN nq) := hkp.trans (below_drewN (Below.refl _ _) _)
        go_wp2_with (at_builtin; refine wp_pushI rfl _ _ rfl (k : Int) hown1 rfl rfl hle2 hkp1 ?_; intro v2 w2 hown2 hkp2)
        go_roundw
        case rel => exact ⟨k + 1, by rw [← ls_size]; omega, by go_num, by rw [HU.out]; exact hown2, hkp2⟩
        case measure => simp [intOf]; omega
    · have HE := Lib.hid (show unl (ls x) (ls y) k = unlAll (ls x) (ls y) by unfold unlAll; rw [← ls_size, show k = x.size by omega])
      have hkl : (x.size : Int) ≤ (k : Int) := by omega
      rw [HE.out] at hown
      go_wp2
      go_ret
      exact ⟨_, rfl, hown, hkp⟩
def intsB (a b : List Int) : Bool := decide (a = b)
def intsRel (w : World) (a b : List Int) (i : Value) (wr : World) : Prop := ∃ k : Nat, k ≤ a.length ∧ i = .int .i64 k ∧ (∀ m, m < k → a.getD m 0 = b.getD m 0) ∧ Eqv w wr
theorem list_getD {a b : List Int} (hl : a.length = b.length) (h : ∀ m, m < a.length → a.getD m 0 = b.getD m 0) : a = b :=
  List.ext_getElem hl fun i h1 h2 => by
    have := h i h1
    rw [List.getD_eq_getElem?_getD, List.getD_eq_getElem?_getD, List.getElem?_eq_getElem h1, List.getElem?_eq_getElem h2] at this
    exact this
set_option maxRecDepth 100000 in
set_option maxHeartbeats 1600000 in
theorem ints_any (a b : Option Addr) (n c m d : Nat) (x y : List Int) (w : World) (hx : IsI w a n x) (hy : IsI w b m y) (hn : n ≤ 1000000) (hm : m ≤ 1000000) :
    Calls Try.prog 19 #[.slice a n c, .slice b m d] w fun e w' => e = .returned (.bool (intsB x y)) ∧ Eqv w w' := by
  have hl := hx.1
  have hl2 := hy.1
  have HX := Lib.hid hx
  have HY := Lib.hid hy
  clear hx hy
  by_cases hnm : n = m
  · subst hnm
    go_enter Try.func19, Try.ntmps19
    go_wp2
    go_loopw [5] (fun i wr => intsRel w x y i wr) (fun i _ => n - (intOf i).toNat)
    case atStart => exact ⟨0, Nat.zero_le _, rfl, (fun i hi => by cases hi), Eqv.refl _⟩
    case round =>
      obtain ⟨k, hk, rfl, heq, hev⟩ := hrel
      rw [hl] at hk
      have HEQ := Lib.hid heq
      clear heq
      by_cases hlt : k < n
      · obtain ⟨g, off, rfl, hb, hc⟩ := (HX.out.eqv hev).2 (by omega)
        obtain ⟨g2, off2, rfl, hb2, hc2⟩ := (HY.out.eqv hev).2 (by omega)
        have hck := hc k hlt
        have hck2 := hc2 k hlt
        obtain ⟨p, hp⟩ : ∃ p, x.getD k 0 = p := ⟨_, rfl⟩
        obtain ⟨q, hq⟩ : ∃ q, y.getD k 0 = q := ⟨_, rfl⟩
        rw [hp] at hck
        rw [hq] at hck2
        have HP := Lib.hid hp
        have HQ := Lib.hid hq
        have hkl : (k : Int) < (n : Int) := by omega
        clear hc hc2 hp hq
        by_cases e : p = q
        · subst e
          go_wp2
          go_quiet (fail)
          go_wp2
          go_roundw
          case rel =>
            refine ⟨k + 1, by omega, by go_num, fun m hm => ?_, hev.trans (eqv_drewN _ _)⟩
            by_cases em : m = k
            · subst em; rw [HP.out, HQ.out]
            · exact HEQ.out m (by omega)
          case measure => simp [intOf]; omega
        · have HZ := Lib.hid (show intsB x y = false from decide_eq_false (fun h => e (by rw [← HP.out, ← HQ.out, h])))
          have hpq : (p == q) = false := by simpa using e
          go_wp2
          go_quiet (fail)
          go_wp2
          go_ret
          rw [HZ.out]
          exact ⟨rfl, hev.trans (eqv_drewN _ _)⟩
      · have HZ := Lib.hid (show intsB x y = true from decide_eq_true (list_getD (hl.trans hl2.symm) fun m hm => HEQ.out m (by omega)))
        have hkl : (n : Int) ≤ (k : Int) := by omega
        go_wp2
        go_ret
        rw [HZ.out]
        exact ⟨rfl, hev⟩
  · have HZ := Lib.hid (show intsB x y = false from decide_eq_false (fun h => hnm (by rw [← hl, ← hl2, h])))
    have hb : ((n : Int) == (m : Int)) = false := by rw [beq_eq_false_iff_ne]; omega
    go_enter Try.func19, Try.ntmps19
    go_wp2
    go_ret
    rw [HZ.out]
    exact ⟨rfl, Eqv.refl _⟩
/-- The product of 1 + a x over places. -/
def locs (l : List Int) : List UInt8 := l.foldl (fun p n => pmul p [1, pw (254 - n).toNat]) [1]
def locRel (w : World) (l : List Int) (p i : Value) (wr : World) : Prop := ∃ (k : Nat) (q : ByteArray), k ≤ l.length ∧ p = .string q ∧ ls q = locs (l.take k) ∧ i = .int .i64 k ∧ Keeps w wr
theorem locs_next {l : List Int} {k : Nat} (h : k < l.length) : locs (l.take (k + 1)) = pmul (locs (l.take k)) [1, pw (254 - l.getD k 0).toNat] := by
  rw [List.take_succ_eq_append_getElem h, locs, List.foldl_append, List.getD_eq_getElem?_getD, List.getElem?_eq_getElem h]; rfl
theorem trim_1x {a : UInt8} (h : a ≠ 0) : trim [1, a] = [1, a] := trim_self fun _ => h
theorem fold_locs (l : List Int) : ∀ p : List UInt8, trim p = p → p ≠ [] → trim (l.foldl (fun p n => pmul p [1, pw (254 - n).toNat]) p) = l.foldl (fun p n => pmul p [1, pw (254 - n).toNat]) p ∧ (l.foldl (fun p n => pmul p [1, pw (254 - n).toNat]) p).length = p.length + l.length := by
  induction l with
  | nil => intro p hp _; exact ⟨hp, rfl⟩
  | cons n l ih =>
    intro p hp hn
    have ht := trim_1x (pw_ne (254 - n).toNat)
    have hl := pmul_length (a := p) (b := [1, pw (254 - n).toNat]) (by rw [hp]; exact hn) (by rw [ht]; simp)
    rw [hp, ht] at hl
    simp only [List.length_cons, List.length_nil] at hl
    have h := ih (pmul p [1, pw (254 - n).toNat]) (pmul_trim _ _) (fun e => by rw [e] at hl; simp at hl)
    exact ⟨h.1, by rw [List.foldl_cons, h.2, List.length_cons]; omega⟩
theorem locs_trim (l : List Int) : trim (locs l) = locs l := (fold_locs l [1] (trim_self fun _ => by decide) (by simp)).1
theorem locs_length (l : List Int) : (locs l).length = l.length + 1 := by
  have := (fold_locs l [1] (trim_self fun _ => by decide) (by simp)).2
  rw [locs, this]; simp; omega
set_option maxRecDepth 100000 in
set_option maxHeartbeats 1600000 in
theorem rloc_any (a : Option Addr) (len cap : Nat) (l : List Int) (w : World) (hr : IsI w a len l) (hlen : len ≤ 1000000) (hok : OkP l l.length) :
    Calls Try.prog 14 #[.slice a len cap] w fun e w' => e = .returned (.string (st (locs l))) ∧ Keeps w w' := by
  have hl := hr.1
  have HR := Lib.hid hr
  have HOK := Lib.hid hok
  clear hr hok
  go_enter Try.func14, Try.ntmps14
  go_wp2
  go_loopw [3, 4] (fun p i wr => locRel w l p i wr) (fun _ i _ => len - (intOf i).toNat)
  case atStart => exact ⟨0, _, Nat.zero_le _, rfl, rfl, rfl, Keeps.refl w⟩
  case round =>
    obtain ⟨k, q, hk, rfl, hq, rfl, hkp⟩ := hrel
    rw [hl] at hk
    have hqs : q.size ≤ 10000000 := by rw [ls_size, hq, locs_length, List.length_take]; omega
    have HQ := Lib.hid hq
    clear hq
    by_cases hlt : k < len
    · obtain ⟨b, off, rfl, hb, hc⟩ := (HR.out.kept hkp).2 (by omega)
      have hck := hc k hlt
      have HN := Lib.hid (locs_next (l := l) (k := k) (by omega))
      obtain ⟨x, hx⟩ : ∃ x, l.getD k 0 = x := ⟨_, rfl⟩
      have hx0 := ((HOK.out k (by omega)).1)
      rw [hx] at hck HN hx0
      obtain ⟨x0, x1⟩ := hx0
      have HG := Lib.hid (show gp 2 (254 - x) = ((pw (254 - x).toNat).toNat : Int) by rw [← gp2_pw, Int.toNat_of_nonneg (by omega)])
      obtain ⟨c, hcc⟩ : ∃ c, pw (254 - x).toNat = c := ⟨_, rfl⟩
      rw [hcc] at HN HG
      have hcv := text2 wr 1 c
      have hcv2 : (convert 34 9 (.slice (some ⟨wr.heap.size, 0, none⟩) 2 2)).run Try.prog (wr.alloc (.cells #[.int .u8 1, .int .u8 (c.toNat : Int)] 5)) = .ok (.string (st [1, c])) (wr.alloc (.cells #[.int .u8 1, .int .u8 (c.toNat : Int)] 5)) := hcv
      have hkl : (k : Int) < (len : Int) := by omega
      have HQS := Lib.hid hqs
      clear hc hx hcc hcv hqs
      go_wp2_with fail
      refine (refpow_any _ _ _ (by omega) (by omega)).mono ?_
      rintro e wz ⟨rfl, rfl⟩
      rw [HG.out]
      go_wp2_with fail
      refine (rpmul_any w _ _ _ (Nat.le_trans HQS.out (by omega)) (by rw [st_size]; simp) (hkp.alloc _)).mono ?_
      rintro e w1 ⟨rfl, hk1⟩
      rw [ls_st, HQ.out, ← HN.out]
      clear hcv2
      go_wp2
      go_roundw
      case rel => exact ⟨k + 1, _, by omega, rfl, ls_st _, by go_num, hk1⟩
      case measure => simp [intOf]; omega
    · have HE := Lib.hid (show l.take k = l from List.take_of_length_le (by omega))
      have hkl : (len : Int) ≤ (k : Int) := by omega
      have HS := Lib.hid (show q = st (locs l) by rw [← st_ls q, HQ.out, HE.out])
      go_wp2
      go_ret
      rw [HS.out]
      exact ⟨rfl, hkp⟩
end Go.Proofs.Ytdlcloenihkkgaa
