/-
  For any string, any number and any byte RsShorts returns true: bytes 0 behind data do not count for Short, and the last byte of data alone has the generator as its word; nothing that was there is changed. No condition.
-/
import Derived.Test.YtachbccoehlcjaaRows
import Derived.Test.YtachbccoehlcjaaRsLaw
import Derived.Deep.RegionWith
import Derived.OpenShut
import Derived.ShutString
import Derived.ChangeOld
import Derived.Carry
import Derived.WalkLawsBesides
namespace Go.Proofs.Ytachbccoehlcjaa.rsShorts
open Go.ChangeShapes Go.WideShapes Go.ChangeAt Go.RowKit Gf
open Go.ChangeMaps (open_string shut_string)
set_option linter.unusedVariables false
theorem top_roots (l : List UInt8) : ∀ p : List UInt8, trim p = p → p ≠ [] → cf p (p.length - 1) = 1 → cf (l.foldl (fun p a => pmul p [a, 1]) p) (p.length + l.length - 1) = 1 := by
  induction l with
  | nil => intro p _ _ h; exact h
  | cons a l ih =>
    intro p hp hn h1
    have hl := pmul_length (a := p) (b := [a, 1]) (by rw [hp]; exact hn) (by rw [trim_x]; simp)
    rw [hp, trim_x] at hl
    simp only [List.length_cons, List.length_nil] at hl
    have hlen : 0 < p.length := List.length_pos_iff.2 hn
    have := ih (pmul p [a, 1]) (pmul_trim _ _) (fun e => by rw [e] at hl; simp at hl) (by
      have e : (pmul p [a, 1]).length - 1 = (p.length - 1) + 1 := by omega
      rw [e, cf_pmul, conv_top (n := p.length - 1) (m := 1) (fun i hi => cf_big (by omega)) (fun i hi => cf_big (by simpa using hi)), h1, one_fm]
      rfl)
    rw [List.foldl_cons, List.length_cons]
    have e2 : (pmul p [a, 1]).length + l.length - 1 = p.length + (l.length + 1) - 1 := by omega
    rw [e2] at this; exact this
theorem gen_length : gen.length = 65 := by rw [gen, proots_length, row_length]
theorem gen_top : cf gen 64 = 1 := by
  have h := top_roots (row 64 pw) [1] (trim_self fun _ => by decide) (by simp) rfl
  rw [row_length] at h; exact h
theorem gen_zero (n : Nat) (hn : n < 64) : pat gen (pw n) = 0 := (proots_zero _ _).2 (List.mem_map.2 ⟨n, List.mem_range.2 hn, rfl⟩)
theorem cf_reverse {l : List UInt8} {i : Nat} (h : i < l.length) : cf l.reverse i = cf l (l.length - 1 - i) := by
  rw [cf_lt (by rw [List.length_reverse]; exact h), List.getElem_reverse, cf_lt (by omega)]
theorem cf_map {l : List UInt8} {f : UInt8 → UInt8} {i : Nat} (h : i < l.length) : cf (l.map f) i = f (cf l i) := by
  rw [cf_lt (by rw [List.length_map]; exact h), List.getElem_map, cf_lt h]
/-- The parity of bytes 0 and one byte behind them. -/
def tailP (x : UInt8) : List UInt8 := row 64 (fun i => fm x (cf gen (63 - i)))
theorem tail_word (x : UInt8) : IsWord ((z8 190 ++ [x]) ++ tailP x) := by
  have e : [x] ++ tailP x = (gen.reverse.map fun y => fm y x) := by
    refine list_ext_cf (by rw [List.length_append, tailP, row_length, List.length_map, List.length_reverse, gen_length]; rfl) fun i hi => ?_
    rw [List.length_append, tailP, row_length] at hi
    have hi65 : i < 65 := by simpa using hi
    have hr : cf (gen.reverse.map fun y => fm y x) i = fm (cf gen (64 - i)) x := by
      rw [cf_map (by rw [List.length_reverse, gen_length]; exact hi65), cf_reverse (by rw [gen_length]; exact hi65), gen_length]
    rw [hr]
    cases i with
    | zero => show x = _; rw [gen_top, one_fm]
    | succ i =>
      show cf (x :: tailP x) (i + 1) = _
      rw [cf_succ, tailP, cf_row, if_pos (by omega), fm_comm, show 63 - i = 64 - (i + 1) by omega]
  refine ⟨by rw [List.length_append, List.length_append, z8_length, tailP, row_length]; rfl, fun n hn => ?_⟩
  rw [List.append_assoc, e, hv_append, show hv (z8 190) (pw n) = 0 from hv_zeros 190 _, zero_fm, z_xor, hv_times, hv_rev, gen_zero n hn, zero_fm]
set_option maxRecDepth 100000 in
set_option maxHeartbeats 4000000 in
theorem off (d : ByteArray) (n : Int) (x : UInt8) (w : World) (h : 191 < (d.size : Int) ∨ ((d.size : Int) ≤ 191 ∧ n < 0) ∨ ((d.size : Int) ≤ 191 ∧ 0 ≤ n ∧ 191 - (d.size : Int) < n)) :
    Calls Try.prog 7 #[.string d, .int .i64 n, .int .u8 (x.toNat : Int)] w fun e w' => e = .returned (.bool true) ∧ Keeps w w' := by
  rcases h with h | ⟨h1, h⟩ | ⟨h1, h2, h⟩
  all_goals
    go_enter Try.func7, Try.ntmps7
    go_wp2_with fail
    refine (awake3_any w _ (Keeps.refl w)).mono ?_
    rintro e wk1 ⟨rfl, hk1⟩
    go_wp2
    go_ret
    exact ⟨rfl, hk1⟩
/-- The values of the third call, whichever of its two rows was made first. -/
def bz (s : Nat) (γ : Bool) : Nat := if γ then s else s + 1
def bx (s : Nat) (γ : Bool) : Nat := if γ then s + 1 else s
def vs5 (s : Nat) (x : UInt8) (γ : Bool) : List Value :=
  [.slice (some ⟨bz s γ, 0, none⟩) 190 190, .string (st (z8 190)), .int .u8 (x.toNat : Int), .slice (some ⟨bx s γ, 0, none⟩) 1 1, .string (st [x]), .string (st (z8 190 ++ [x])), .tuple #[.string (st (tailP x)), .int .i64 0], .tuple #[.string (st (tailP x)), .int .i64 0], .string (st (tailP x)), .int .i64 0, .string (st (tailP x)), .int .i64 0]
theorem vs5_same {s : Nat} {x : UInt8} {γ γ' : Bool} {L : Nat → Bool} (h0 : L 0 = false) (h3 : L 3 = false) (j : Nat) (hj : L j = true) : (vs5 s x γ').getD j undef = (vs5 s x γ).getD j undef := by
  match j, hj with
  | 0, hj => rw [h0] at hj; cases hj
  | 1, _ => rfl
  | 2, _ => rfl
  | 3, hj => rw [h3] at hj; cases hj
  | j + 4, _ => rfl
def S5 (w0 wr : World) (Z X : Obj) (γ : Bool) (L : Nat → Bool) (w : World) : Prop :=
  (L 6 = true → Keeps w0 w) ∧ (L 6 = false → (L 0 = false → L 3 = false → Eqv wr w) ∧ (L 0 = true → L 3 = false → γ = true ∧ Eqv (wr.alloc Z) w) ∧ (L 0 = false → L 3 = true → γ = false ∧ Eqv (wr.alloc X) w) ∧
    (L 0 = true → L 3 = true → (γ = true ∧ Eqv ((wr.alloc Z).alloc X) w) ∨ (γ = false ∧ Eqv ((wr.alloc X).alloc Z) w)))
theorem S5.same {w0 wr : World} {Z X : Obj} {γ : Bool} {L L' : Nat → Bool} {w : World} {i : Nat} (h : S5 w0 wr Z X γ L w) (h6 : 6 ≠ i) (h0 : 0 ≠ i) (h3 : 3 ≠ i) (k : ∀ j, L' j = true ↔ (L j = true ∨ j = i)) : S5 w0 wr Z X γ L' w := by
  unfold S5 at h ⊢
  rw [same_at k h6, same_at k h0, same_at k h3]; exact h
theorem S5.put0 {w0 wr : World} {Z X : Obj} {γ' : Bool} {L L' : Nat → Bool} {w' : World} (h6 : L 6 = false) (k : ∀ j, L' j = true ↔ (L j = true ∨ j = 0)) (h : (L 3 = false → γ' = true ∧ Eqv (wr.alloc Z) w') ∧ (L 3 = true → γ' = false ∧ Eqv ((wr.alloc X).alloc Z) w')) : S5 w0 wr Z X γ' L' w' := by
  unfold S5
  rw [same_at k (show 6 ≠ 0 by decide), same_at k (show 3 ≠ 0 by decide), true_at k, h6]
  exact ⟨(fun h => by cases h), fun _ => ⟨(fun h => by cases h), fun _ h3 => h.1 h3, (fun h => by cases h), fun _ h3 => .inr (h.2 h3)⟩⟩
theorem S5.put3 {w0 wr : World} {Z X : Obj} {γ' : Bool} {L L' : Nat → Bool} {w' : World} (h6 : L 6 = false) (k : ∀ j, L' j = true ↔ (L j = true ∨ j = 3)) (h : (L 0 = false → γ' = false ∧ Eqv (wr.alloc X) w') ∧ (L 0 = true → γ' = true ∧ Eqv ((wr.alloc Z).alloc X) w')) : S5 w0 wr Z X γ' L' w' := by
  unfold S5
  rw [same_at k (show 6 ≠ 3 by decide), same_at k (show 0 ≠ 3 by decide), true_at k, h6]
  exact ⟨(fun h => by cases h), fun _ => ⟨(fun _ h => by cases h), (fun _ h => by cases h), fun h0 _ => h.1 h0, fun h0 _ => .inl (h.2 h0)⟩⟩
theorem S5.put6 {w0 wr : World} {Z X : Obj} {γ : Bool} {L L' : Nat → Bool} {w' : World} (k : ∀ j, L' j = true ↔ (L j = true ∨ j = 6)) (h : Keeps w0 w') : S5 w0 wr Z X γ L' w' := by
  unfold S5
  rw [true_at k]
  exact ⟨fun _ => h, (fun h => by cases h)⟩
set_option maxRecDepth 100000 in
set_option maxHeartbeats 4000000 in
theorem core (d : ByteArray) (n : Nat) (x : UInt8) (w : World) (hd : d.size + n ≤ 191) :
    Calls Try.prog 7 #[.string d, .int .i64 (n : Int), .int .u8 (x.toNat : Int)] w fun e w' => e = .returned (.bool true) ∧ Keeps w w' := by
  have h1 : (d.size : Int) ≤ 191 := by omega
  have h2 : (0 : Int) ≤ (n : Int) := by omega
  have h3 : (n : Int) ≤ 191 - (d.size : Int) := by omega
  have hmk : ∀ W : World, _ := make8 n (by omega)
  have htx : ∀ W : World, _ := fun W => text_zr W n (by omega)
  have HC := Lib.hid (cat_st d (z8 n))
  have hzs : (st (z8 n)).size ≤ 1000 := by rw [st_size, z8_length]; omega
  go_enter Try.func7, Try.ntmps7
  go_wp2_with fail
  refine (short_any w d _ (by omega) (Keeps.refl w)).mono ?_
  rintro e wk1 ⟨p, rfl, hp, hw1, hk1⟩
  rw [id]
  go_wp2_with fail
  rw [HC.out]
  refine (short_any w _ _ (by rw [st_size, List.length_append, z8_length, ← ls_size]; exact hd) (hk1.alloc _)).mono ?_
  rintro e wk2 ⟨p2, rfl, hp2, hw2, hk2⟩
  rw [id]
  have hpp : p2 = p := by
    refine parity_one hp2 hp hw2 ?_
    rw [ls_st, st_size, List.length_append, z8_length, ← ls_size, List.append_assoc (ls d), z8_add, show n + (191 - (d.size + n)) = 191 - d.size by omega]
    exact hw1
  subst hpp
  clear hk1 hw1 hw2 hp2 htx hmk hzs
  have hm190 : ∀ W : World, (Instr.makeSlice 31 (.int .i64 190) (.int .i64 190)).run Try.prog W = .ok (.slice (some ⟨W.heap.size, 0, none⟩) 190 190) (W.alloc (.cells (zr 190) 5)) := fun W => make8 190 (by omega) W
  obtain ⟨Z, hZ⟩ : ∃ Z : Obj, Z = .cells (zr 190) 5 := ⟨_, rfl⟩
  obtain ⟨X, hX⟩ : ∃ X : Obj, X = .cells #[.int .u8 (x.toNat : Int)] 5 := ⟨_, rfl⟩
  have HZ := Lib.hid hZ
  have HX := Lib.hid hX
  have HK2 := Lib.hid hk2
  obtain ⟨s, hs0⟩ : ∃ s, wk2.heap.size = s := ⟨_, rfl⟩
  have bZ : ∀ W : World, Blk W.heap.size (z8 190) (W.alloc Z) := fun W => by rw [hZ]; exact Blk.make W 190
  have bX : ∀ W : World, Blk W.heap.size [x] (W.alloc X) := fun W => by
    rw [hX]
    refine ⟨by simp, fun i hi => ?_, fun i _ => World.frozen?_alloc_new _ _ _ _⟩
    have hi0 : i = 0 := by simpa using hi
    subst hi0
    rw [World.cell?_alloc_new]; rfl
  have HBZ := Lib.hid bZ
  have HBX := Lib.hid bX
  clear hZ hX hk2 bZ bX
  -- what is known of both rows, once both are there
  have HROW := Lib.hid (show ∀ γ L W, S5 w wk2 Z X γ L W → L 6 = false → (L 0 = true → Blk (bz s γ) (z8 190) W) ∧ (L 3 = true → Blk (bx s γ) [x] W) from fun γ L W h h6 => by
    have hq := h.2 h6
    have al : ∀ (W : World) (o : Obj), Below W.heap.size W (W.alloc o) := fun W o => (Below.refl _ W).alloc (Nat.le_refl _) o
    refine ⟨fun h0 => ?_, fun h3 => ?_⟩
    · cases e3 : L 3
      · obtain ⟨rfl, he⟩ := hq.2.1 h0 e3
        have := (HBZ.out wk2).eqv he
        rw [hs0] at this; exact this
      · rcases hq.2.2.2 h0 e3 with ⟨rfl, he⟩ | ⟨rfl, he⟩
        · have := ((HBZ.out wk2).below (al _ X)).eqv he
          rw [hs0] at this; exact this
        · have := (HBZ.out (wk2.alloc X)).eqv he
          rw [World.size_alloc, hs0] at this; exact this
    · cases e0 : L 0
      · obtain ⟨rfl, he⟩ := hq.2.2.1 e0 h3
        have := (HBX.out wk2).eqv he
        rw [hs0] at this; exact this
      · rcases hq.2.2.2 e0 h3 with ⟨rfl, he⟩ | ⟨rfl, he⟩
        · have := (HBX.out (wk2.alloc Z)).eqv he
          rw [World.size_alloc, hs0] at this; exact this
        · have := ((HBX.out wk2).below (al _ Z)).eqv he
          rw [hs0] at this; exact this)
  have HKALL := Lib.hid (show ∀ γ L W, S5 w wk2 Z X γ L W → L 6 = false → Keeps w W from fun γ L W h h6 => by
    have hq := h.2 h6
    cases e0 : L 0 <;> cases e3 : L 3
    · exact HK2.out.eqv (hq.1 e0 e3)
    · exact (HK2.out.alloc _).eqv (hq.2.2.1 e0 e3).2
    · exact (HK2.out.alloc _).eqv (hq.2.1 e0 e3).2
    · rcases hq.2.2.2 e0 e3 with ⟨_, he⟩ | ⟨_, he⟩
      · exact ((HK2.out.alloc _).alloc _).eqv he
      · exact ((HK2.out.alloc _).alloc _).eqv he)
  have HC2 := Lib.hid (cat_st (st (z8 190)) [x])
  rw [ls_st] at HC2
  have hz1 : (st (z8 190)).size ≤ 1000 := by rw [st_size, z8_length]; omega
  have hz2 : (st [x]).size ≤ 1000 := by rw [st_size]; simp
  go_wp2
  refine wp_draw_g (by kernel_rfl) (vs5 s x) (S5 w wk2 Z X) rfl (by kernel_rfl) ?fin ?hfin true ⟨(fun h => by cases h), fun _ => ⟨fun _ _ => Eqv.drew wk2, (fun h => by cases h), (fun _ h => by cases h), (fun h => by cases h)⟩⟩ ?each ?hend
  case hfin => intro γ; simp [vs5, seqA, dstOf, Act.put]; rfl
  case each =>
    refine ⟨?_, ?_, ?_, ?_, ?_, ?_, ?_, ?_, ?_, ?_, ?_, ?_, trivial⟩
    all_goals intro γ L w5 hq0 hd5 hs5 hw5
    all_goals try simp only [Nat.zero_add, Nat.reduceAdd] at hq0
    · have h6 := hs5.no (j := 6) (i := 5) (by kernel_rfl) (hs5.no (i := 1) (by kernel_rfl) (hs5.no (by kernel_rfl) hq0))
      cases e3 : L 3
      · have hA := ((hw5.2 h6).1 hq0 e3)
        have hsz : w5.heap.size = s := hA.size.trans hs0
        refine ⟨true, vs5_same hq0 e3, ?_⟩
        unfold Does
        go_simp
        exact ⟨rfl, fun L' k => S5.put0 h6 k ⟨fun _ => ⟨rfl, by rw [HZ.out]; exact hA.alloc _⟩, fun h => by rw [e3] at h; cases h⟩⟩
      · obtain ⟨rfl, hA⟩ := ((hw5.2 h6).2.2.1 hq0 e3)
        have hsz : w5.heap.size = s + 1 := by rw [hA.size, World.size_alloc, hs0]
        refine ⟨false, fun _ _ => rfl, ?_⟩
        unfold Does
        go_simp
        exact ⟨rfl, fun L' k => S5.put0 h6 k ⟨(fun h => by rw [e3] at h; cases h), fun _ => ⟨rfl, by rw [HZ.out] at *; exact hA.alloc _⟩⟩⟩
    · refine ⟨γ, fun _ _ => rfl, ?_⟩
      have h6 := hs5.no (j := 6) (i := 5) (by kernel_rfl) (hs5.no (by kernel_rfl) hq0)
      have hb := ((HROW.out γ L w5 hw5 h6).1 (hd5 0 (by kernel_rfl))).whole 190 (n := 190) (z8_length 190).symm
      unfold Does
      go_simp
      exact ⟨rfl, fun L' k => hw5.same (by decide) (by decide) (by decide) k⟩
    · refine ⟨γ, fun _ _ => rfl, ?_⟩
      unfold Does
      go_simp
      exact ⟨rfl, fun L' k => hw5.same (by decide) (by decide) (by decide) k⟩
    · have h6 := hs5.no (j := 6) (i := 5) (by kernel_rfl) (hs5.no (i := 4) (by kernel_rfl) (hs5.no (by kernel_rfl) hq0))
      cases e0 : L 0
      · have hA := ((hw5.2 h6).1 e0 hq0)
        have hsz : w5.heap.size = s := hA.size.trans hs0
        refine ⟨false, vs5_same e0 hq0, ?_⟩
        unfold Does
        go_simp
        exact ⟨rfl, fun L' k => S5.put3 h6 k ⟨fun _ => ⟨rfl, by rw [HX.out]; exact hA.alloc _⟩, fun h => by rw [e0] at h; cases h⟩⟩
      · obtain ⟨rfl, hA⟩ := ((hw5.2 h6).2.1 e0 hq0)
        have hsz : w5.heap.size = s + 1 := by rw [hA.size, World.size_alloc, hs0]
        refine ⟨true, fun _ _ => rfl, ?_⟩
        unfold Does
        go_simp
        exact ⟨rfl, fun L' k => S5.put3 h6 k ⟨(fun h => by rw [e0] at h; cases h), fun _ => ⟨rfl, by rw [HX.out] at *; exact hA.alloc _⟩⟩⟩
    · refine ⟨γ, fun _ _ => rfl, ?_⟩
      have h6 := hs5.no (j := 6) (i := 5) (by kernel_rfl) (hs5.no (by kernel_rfl) hq0)
      have hb := ((HROW.out γ L w5 hw5 h6).2 (hd5 3 (by kernel_rfl))).whole 1 (n := 1) rfl
      unfold Does
      go_simp
      exact ⟨rfl, fun L' k => hw5.same (by decide) (by decide) (by decide) k⟩
    · refine ⟨γ, fun _ _ => rfl, ?_⟩
      unfold Does
      go_simp
      exact ⟨congrArg Value.string HC2.out, fun L' k => hw5.same (by decide) (by decide) (by decide) k⟩
    · refine ⟨γ, fun _ _ => rfl, ?_⟩
      unfold Does
      go_simp
      refine (short_any w _ w5 (by rw [st_size, List.length_append, z8_length]; simp) (HKALL.out γ L w5 hw5 hq0)).mono ?_
      rintro e w6 ⟨p3, rfl, hp3, hw3, hk6⟩
      have hp4 : p3 = tailP x := by
        refine parity_one hp3 (row_length _ _) ?_ (tail_word x)
        rw [ls_st, st_size, List.length_append, z8_length] at hw3
        simpa [z8] using hw3
      subst hp4
      exact ⟨_, rfl, rfl, fun L' k => S5.put6 k hk6⟩
    · refine ⟨γ, fun _ _ => rfl, ?_⟩
      unfold Does
      go_simp
      exact ⟨rfl, fun L' k => hw5.same (by decide) (by decide) (by decide) k⟩
    · refine ⟨γ, fun _ _ => rfl, ?_⟩
      unfold Does
      go_simp
      exact ⟨rfl, fun L' k => hw5.same (by decide) (by decide) (by decide) k⟩
    · refine ⟨γ, fun _ _ => rfl, ?_⟩
      unfold Does
      go_simp
      exact ⟨rfl, fun L' k => hw5.same (by decide) (by decide) (by decide) k⟩
    · refine ⟨γ, fun _ _ => rfl, ?_⟩
      unfold Does
      go_simp
      exact ⟨rfl, fun L' k => hw5.same (by decide) (by decide) (by decide) k⟩
    · refine ⟨γ, fun _ _ => rfl, ?_⟩
      unfold Does
      go_simp
      exact ⟨rfl, fun L' k => hw5.same (by decide) (by decide) (by decide) k⟩
  case hend =>
    intro γ L w5 hL hw5
    have hk5 := hw5.1 (hL 6 (by simp))
    clear hw5 hL
    have hts : (st (tailP x)).size = 64 := by rw [st_size, tailP, row_length]
    obtain ⟨g, hg⟩ : ∃ g, gen = g := ⟨_, rfl⟩
    have hgs : (st g).size = 65 := by rw [st_size, ← hg, gen_length]
    have hg64 := ls_get (st g) 64 (by omega)
    rw [ls_st, show cf g 64 = 1 by rw [← hg]; exact gen_top] at hg64
    have hst := st_toList
    have HTL := Lib.hid (show ∀ i, i < 64 → cf (tailP x) i = fm x (cf g (63 - i)) from fun i hi => by rw [tailP, cf_row, if_pos hi, hg])
    have HG := Lib.hid hg
    clear hg
    generalize tailP x = tp at *
    go_wp2_with fail
    refine (rsgen_any w w5 hk5).mono ?_
    rintro e w6 ⟨rfl, hk6⟩
    rw [HG.out]
    clear hk5
    have HK6 := Lib.hid hk6
    clear hk6
    go_wp2
    go_loopw [14] (fun i wr => ∃ k : Nat, k ≤ 64 ∧ i = .int .i64 (k : Int) ∧ Keeps w wr) (fun i _ => 64 - (intOf i).toNat)
    case atStart => exact ⟨0, by omega, rfl, HK6.out⟩
    case round =>
      obtain ⟨k, hk, rfl, hkr⟩ := hrel
      have HKR := Lib.hid hkr
      clear hkr
      by_cases hlt : k < 64
      · have hg1 := ls_get (st tp) k (by omega)
        have hg2 := ls_get (st g) (63 - k) (by omega)
        rw [ls_st] at hg1 hg2
        rw [HTL.out k hlt] at hg1
        have kI : (k : Int) < 64 := by omega
        have k1 : ((63 : Int) - (k : Int)).toNat = 63 - k := by omega
        have k2 : (0 : Int) ≤ 63 - (k : Int) := by omega
        have k3 : (63 : Int) - (k : Int) < 65 := by omega
        have k4 : (k : Int) ≤ 63 := by omega
        have hwr : IntKind.i64.wrap ((63 : Int) - (k : Int)) = 63 - (k : Int) := by rw [IntKind.wrap_i64]; omega
        obtain ⟨c, hc⟩ : ∃ c, cf g (63 - k) = c := ⟨_, rfl⟩
        obtain ⟨y, hy⟩ : ∃ y, fm x c = y := ⟨_, rfl⟩
        rw [hc, hy] at hg1
        rw [hc] at hg2
        have HM := Lib.hid (show ∀ W : World, Calls Try.prog 19 #[.int .u8 (x.toNat : Int), .int .u8 (c.toNat : Int)] W fun e w' => e = .returned (.int .u8 (y.toNat : Int)) ∧ W = w' from fun W => by rw [← hy]; exact rmul8 x c W)
        clear hc hy
        go_wp2
        refine wp_draw (by kernel_rfl)
          [.string (st tp), .int .i64 (k : Int), .int .u8 (y.toNat : Int), .int .u8 (x.toNat : Int), .string (st g), .int .i64 (k : Int), .int .i64 (63 - (k : Int)), .int .u8 (c.toNat : Int), .int .u8 (y.toNat : Int), .bool false]
          (fun _ W => Keeps wr W)
          rfl (by kernel_rfl) (fin := ?finb) ?hfinb ((Keeps.refl wr).trans (Below.refl _ wr).drew) ?eachb ?hendb
        case hfinb => simp [seqA, dstOf, Act.put]; rfl
        case eachb =>
          refine ⟨?_, ?_, ?_, ?_, ?_, ?_, ?_, ?_, ?_, ?_, trivial⟩
          all_goals intro L w7 hq0 hd5 hs5 hw
          all_goals unfold Does
          · go_simp
          · go_simp
          · go_simp
          · go_simp
          · go_simp
          · go_simp
          · go_simp
          · go_simp
          · go_simp
            refine (HM.out w7).mono ?_
            rintro e w8 ⟨rfl, rfl⟩
            exact ⟨_, rfl, rfl, fun _ _ => hw⟩
          · go_simp
        case hendb =>
          intro L w7 hL hw
          clear hL
          have HKW := Lib.hid (HKR.out.over hw)
          clear hw
          go_wp2
          go_roundw
          case rel => exact ⟨k + 1, by omega, by go_num, HKW.out⟩
          case measure => simp [intOf]; omega
      · go_wp2_with fail
        refine (awake3_any w _ HKR.out).mono ?_
        rintro e w7 ⟨rfl, hk7⟩
        go_wp2
        go_ret
        exact ⟨rfl, hk7⟩
theorem walk (d : ByteArray) (wd : d.size ≤ maxLen) (n : Int) (wn : (Lit.int .i64 n).wf = true) (c : Int) (wc : (Lit.int .u8 c).wf = true) (w : World) :
    Calls Try.prog 7 #[.string d, .int .i64 n, .int .u8 c] w fun e w' => e = .returned (.bool true) ∧ Below w.heap.size w w' := by
  obtain ⟨x, rfl⟩ := u8_of (bounds_u8 wc)
  by_cases h0 : 191 < (d.size : Int)
  · exact off d n x w (.inl h0)
  by_cases h1 : n < 0
  · exact off d n x w (.inr (.inl ⟨by omega, h1⟩))
  by_cases h2 : 191 - (d.size : Int) < n
  · exact off d n x w (.inr (.inr ⟨by omega, by omega, h2⟩))
  · obtain ⟨m, rfl⟩ : ∃ m : Nat, n = (m : Int) := ⟨n.toNat, by omega⟩
    exact core d m x w (by omega)

theorem own : ownKnob Try.prog.godebug = none := by kernel_rfl
theorem laidOut : laidOutB Try.prog = true := by kernel_rfl
set_option maxRecDepth 100000 in
theorem lifted (os : Os) (started : os.Started) (H : Type) (enc : TypeId × Value → H) :
    ReturnsInHanded {} Try.checked os 7 .any (Rows.rsShortsSpec.pre6 enc Try.prog Try.f7 Rows.rsShortsRow.domain false) (Rows.rsShortsSpec.post enc Try.prog Try.f7 false true false false) := by
  refine returnsInHanded_of_change (C := Try.checked) own started (by kernel_rfl) Try.func7
    (ChangeSpec.witness6 (enc := enc) (C := Try.checked) false ⟨#[], #[.string ByteArray.empty, .int .i64 0, .int .u8 0], []⟩ 8 (by kernel_rfl) (by kernel_rfl) (by kernel_rfl) (by kernel_rfl)) ?_
  intro W base args ds gs before hval0 hW hcnd _
  have hval : ∀ (j : Nat) t v, Try.f7.params[j]? = some t → args[j]? = some v → Value.okWide Try.prog W .any base t v := hval0
  have hW' := hW
  obtain ⟨p, q, hA0, hV, rfl, hfz, hnd⟩ := hW
  have hA : DataW.TrodAll enc Try.prog W 0 (fun _ => true) true Try.f7.params.toList args.toList ds p := hA0
  rw [Try.params7] at hA hval
  obtain ⟨v0, vs0, d0, ds0, p0, q0, hargs, rfl, rfl, h0, r0⟩ := trodAll_cons hA
  obtain ⟨v1, vs1, d1, ds1, p1, q1, rfl, rfl, rfl, h1, r1⟩ := trodAll_cons r0
  obtain ⟨v2, vs2, d2, ds2, p2, q2, rfl, rfl, rfl, h2, r2⟩ := trodAll_cons r1
  obtain ⟨rfl, rfl, rfl⟩ := trodAll_nil r2
  obtain rfl : args = #[v0, v1, v2] := by cases args; simp_all
  obtain ⟨rfl, rfl⟩ := trodVars_none hV
  obtain ⟨a0, rfl, rfl, rfl, w0⟩ := open_string Try.underlying9 (hval 0 9 v0 rfl rfl) h0
  obtain ⟨a1, rfl, rfl, rfl, w1⟩ := open_int Try.underlying3 (hval 1 3 v1 rfl rfl) h1
  obtain ⟨a2, rfl, rfl, rfl, w2⟩ := open_int Try.underlying5 (hval 2 5 v2 rfl rfl) h2
  clear hA0 hval0
  refine (walk a0 w0 a1 w1 a2 w2 W).mono fun e W' ⟨he, bel⟩ => ?_
  subst he
  exact ⟨_, rfl, _, _, _, [], _, [], hW', trodAll_mk1 (shut_bool Try.underlying4 _), (trodAll_cons_mk (shut_string Try.underlying9 w0) (trodAll_cons_mk (shut_int Try.underlying3 w1) (trodAll_cons_mk (shut_int Try.underlying5 w2) trodAll_mk0))), rfl, bel.frame _, fun h => by cases h⟩

theorem over : Rows.rsShortsRow.holds Try.pinned (OpenSpec.ofChange Rows.rsShortsSpec) :=
  OpenClaim.holds_of_wide 7 Try.f7 rfl rfl rfl rfl rfl rfl rfl ⟨rfl, rfl, rfl, rfl, rfl⟩ rfl rfl rfl rfl rfl (by kernel_rfl) Try.func7 (by kernel_rfl)
    (of_decide_eq_true (by kernel_rfl)) (by unfold Func.isWrapper; first | (rw [if_pos (by decide +kernel)]; kernel_rfl) | (rw [if_neg (by decide +kernel)]; exact ⟨rfl, rfl⟩))
    (fun os started H enc _ => lifted os started H enc)

theorem proved : Rows.RsShortsSaid := over
#print axioms proved
end Go.Proofs.Ytachbccoehlcjaa.rsShorts
