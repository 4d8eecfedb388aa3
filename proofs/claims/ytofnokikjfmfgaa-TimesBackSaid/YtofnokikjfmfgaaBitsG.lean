/-
  What write, Put and Len of package bits do: the lowest bits of a number behind the others. For up to a million bits. Nothing that was there turns but the writer.
-/
import Derived.Test.YtofnokikjfmfgaaBitsF
namespace Go.Proofs.Ytofnokikjfmfgaa
open Go.RowKit Go.Shelf Gf Bit
set_option maxRecDepth 100000
attribute [local go_sem] Oper.semAt_some
theorem wrap64 {n : Int} (h : -9223372036854775808 ≤ n ∧ n ≤ 9223372036854775807) : IntKind.i64.wrap n = n := by simp [IntKind.wrap, IntKind.bits, IntKind.signed]; omega
/-- A bit at its place in a byte, or-ed to it. -/
theorem or_bit {y : UInt8} {v : Bool} {t : Nat} (ht : t ≤ 7) : ∃ z : UInt8, z.toNat = y.toNat ||| (v.toNat * 2 ^ t) ∧ bits BinOp.or IntKind.u8 (y.toNat : Int) (IntKind.u8.wrap (bI v * 2 ^ t)) = (z.toNat : Int) := by
  have hb : v.toNat * 2 ^ t < 2 ^ 8 := by
    have : 2 ^ t ≤ 2 ^ 7 := Nat.pow_le_pow_right (by decide) ht
    cases v
    · show 0 * _ < _; omega
    · show 1 * _ < _; omega
  have hlt : y.toNat ||| (v.toNat * 2 ^ t) < 2 ^ 8 := Nat.or_lt_two_pow y.toNat_lt hb
  refine ⟨UInt8.ofNat (y.toNat ||| (v.toNat * 2 ^ t)), UInt8.toNat_ofNat_of_lt' hlt, ?_⟩
  rw [UInt8.toNat_ofNat_of_lt' hlt]
  unfold bI
  rw [show ((v.toNat : Int) * 2 ^ t) = ((v.toNat * 2 ^ t : Nat) : Int) by rw [Int.natCast_mul, Int.natCast_pow]; rfl, IntKind.wrap_u8']
  have hm : ((v.toNat * 2 ^ t : Nat) : Int) % 256 = ((v.toNat * 2 ^ t : Nat) : Int) := by omega
  rw [hm, u8_or_nat _ _ y.toNat_lt hb]
theorem byt_past {L : List Bool} {n : Nat} (h : L.length ≤ n) : ∀ j, n ≤ 8 * j → byt L j = 0 := fun _ hj => byt_big (by omega)
set_option maxHeartbeats 8000000 in
theorem write_in {b : Nat} {L : List Bool} {w : World} (h : OutAt b L w) (x N : Nat) (hx : x < 2 ^ 64) (hN : N ≤ 64) (hL : L.length + N ≤ 1000000) :
    CallsIn Fence.wide 5 Try.prog 57 #[.pointer (some ⟨b, 0, none⟩), .int .u64 (un x), .int .i64 (N : Int)] w fun e w' => (∃ v, e = .returned v) ∧ OutAt b (L ++ lb x N) w' ∧ Only b w w' := by
  have HX := Lib.hid hx
  clear hx
  refine callsIn_of_wp_marks Try.func57 rfl trivial ?_ rfl
  simp only [Try.ntmps57, List.size_toArray, List.length_cons, List.length_nil, Nat.reduceAdd, Nat.reduceSub, Array.replicate_succ, Array.replicate_zero, List.push_toArray, List.append_toArray, List.nil_append, List.cons_append]
  gi_wp2
  refine ⟨trivial, (low_in _ _ _ _).mono ?_⟩
  rintro x0 w' ⟨rfl, rfl⟩
  gi_wp2
  have hbo := OutR.old h
  have c0 := cell_new1 w (.pointer (some ⟨b, 0, none⟩)) 102
  have c1 := cell_new1 (w.alloc (.cells #[.pointer (some ⟨b, 0, none⟩)] 102)) (.int .u64 (un x)) 84
  have c2 := cell_new1 ((w.alloc (.cells #[.pointer (some ⟨b, 0, none⟩)] 102)).alloc (.cells #[.int .u64 (un x)] 84)) (.int .i64 (N : Int)) 3
  simp only [World.size_alloc] at c1 c2
  have k3 : Keeps w (((w.alloc (.cells #[.pointer (some ⟨b, 0, none⟩)] 102)).alloc (.cells #[.int .u64 (un x)] 84)).alloc (.cells #[.int .i64 (N : Int)] 3)) := (((Keeps.refl w).alloc _).alloc _).alloc _
  have j0 : WrJ w b w.heap.size x (L ++ (lb x N).take 0) (((w.alloc (.cells #[.pointer (some ⟨b, 0, none⟩)] 102)).alloc (.cells #[.int .u64 (un x)] 84)).alloc (.cells #[.int .i64 (N : Int)] 3)) :=
    ⟨by rw [List.take_zero, List.append_nil]; exact OutR.keeps h k3, cell_alloc1 _ (cell_alloc1 _ c0.1), cell_alloc1 _ c1.1, Only.below k3⟩
  have d2 := c2.1
  have sz : (((w.alloc (.cells #[.pointer (some ⟨b, 0, none⟩)] 102)).alloc (.cells #[.int .u64 (un x)] 84)).alloc (.cells #[.int .i64 (N : Int)] 3)).heap.size = w.heap.size + 3 := by simp
  obtain ⟨w3, hw3⟩ : ∃ w3, ((w.alloc (.cells #[.pointer (some ⟨b, 0, none⟩)] 102)).alloc (.cells #[.int .u64 (un x)] 84)).alloc (.cells #[.int .i64 (N : Int)] 3) = w3 := ⟨_, rfl⟩
  rw [hw3] at j0 d2 sz
  rw [hw3]
  clear hw3 k3 c0 c1 c2 h
  obtain ⟨X, hX⟩ : ∃ X, w.heap.size = X := ⟨_, rfl⟩
  rw [hX] at j0 d2 sz hbo
  rw [hX]
  refine wpIn_range (gf := 73) rfl (enters_of Try.func73 (by kernel_rfl) rfl) (fun W => (∃ r, W.heap[w3.heap.size + 1]? = some (.loop r)) ∧ WrJ w b X x (L ++ lb x N) W) ?hit ?done
  case hit =>
    intro fn r hr hLp
    rw [sz] at hLp ⊢
    have hW1 : Keeps w3 ((w3.alloc (.deferred (some []))).alloc (.loop r)) := ((Keeps.refl w3).alloc _).alloc _
    refine (low1_in (5 - 1) (by omega) (X + 3 + 1) (X + 1 + 1) (X + 1) x N HX.out hN (fun k W => Lp (X + 3) (X + 3 + 1) r W ∧ WrJ w b X x (L ++ (lb x N).take k) W) (fun k W hJ => hJ.2.cx) ?hY _ ?_ ?_).mono fun x0 W' hh => ⟨hh.1, hh.2.1, ⟨r, hh.2.1.loop⟩, by have := hh.2.2; rwa [List.take_of_length_le (by rw [lb_length]; exact Nat.le_refl _)] at this⟩
    case hY =>
      rintro k W hk ⟨hl, hj⟩
      have HTK := Lib.hid (show L ++ (lb x N).take (k + 1) = (L ++ (lb x N).take k) ++ [bt (lb x N) k] by
        rw [List.take_succ_eq_append_getElem (by rw [lb_length]; exact hk), bt_lt (by rw [lb_length]; exact hk), List.append_assoc])
      have hlen : (L ++ (lb x N).take k).length = L.length + k := by rw [List.length_append, List.length_take, lb_length]; omega
      rw [HTK.out]
      generalize L ++ (lb x N).take k = M at *
      generalize bt (lb x N) k = vb at *
      have hb1 := bI_bd vb
      obtain ⟨v, hv⟩ : ∃ v, bI vb = v := ⟨_, rfl⟩
      have HV := Lib.hid hv
      rw [hv] at hb1 ⊢
      refine YieldAt.mono (yield_round hl (by omega) (by rw [hr]) (by rw [hr]) (by rw [hr]; rfl) (a₁ := ?a1) (WrJ w b X x (M ++ [vb])) ?_ ?_) ?_
      case a1 => exact { tmps := #[.pointer (some ⟨b, 0, none⟩), .int .u64 (un x), .int .i64 (N : Int), .pointer (some ⟨X, 0, none⟩), undef, undef, .int .u8 v, .int .u64 (un x), .int .i64 (N : Int), .func (.func 73) #[] #[.pointer (some ⟨X + 1 + 1, 0, none⟩), .pointer (some ⟨X + 1, 0, none⟩)], .int .u8 v, undef, undef, undef, undef, undef, undef, undef, undef, undef, undef, undef, undef, undef, undef, undef, undef, undef, undef, undef, undef, undef, undef, undef, undef, undef, undef, undef], defers := [] }
      · intro K hK
        rw [hr]
        gi_wp2
        exact hK
      · have hj4 := hj.put (.loop { r with state := .busy }) (by omega) hl.loop rfl
        generalize W.putObj (X + 3 + 1) (.loop { r with state := .busy }) = W4 at *
        obtain ⟨hO, co, cx, on⟩ := hj4
        rw [hr]
        have hfit := OutR.byte hO (M.length / 8 % 128) (by omega)
        rw [show 128 * (M.length / 1024) + M.length / 8 % 128 = M.length / 8 by omega] at hfit
        have hfz := OutR.free hO (1 + M.length / 8 % 128) (by omega)
        have hcn := OutR.cnt hO
        obtain ⟨z, hz1, hz2⟩ := or_bit (y := byt M (M.length / 8)) (v := vb) (t := 7 - M.length % 8) (by omega)
        have HP := Lib.hid (put_bit hO vb hz1)
        have hMl : M.length ≤ 1000000 := by omega
        have hM1 : M.length + 1 ≤ 1000000 := by omega
        rw [hv] at hz2
        have HO := Lib.hid hO
        have HCX := Lib.hid cx
        have HON := Lib.hid on
        clear hO hz1 cx on
        generalize byt M (M.length / 8) = y at *
        obtain ⟨n, hn⟩ : ∃ n, M.length = n := ⟨_, rfl⟩
        rw [hn] at hfit hfz hcn hz2 hMl hM1 HP
        have HNN := Lib.hid hn
        clear hn hlen
        obtain ⟨i, hi⟩ : ∃ i, n / 8 % 128 = i := ⟨_, rfl⟩
        obtain ⟨t, ht⟩ : ∃ t, 7 - n % 8 = t := ⟨_, rfl⟩
        rw [hi] at hfit hfz HP
        rw [ht] at hz2
        have hi128 : i < 128 := by omega
        have ht7 : t ≤ 7 := by omega
        obtain ⟨q, hq⟩ : ∃ q, n / 8 = q := ⟨_, rfl⟩
        obtain ⟨r8, hr8⟩ : ∃ r8, n % 8 = r8 := ⟨_, rfl⟩
        have e1 : IntKind.i64.wrap ((n : Int) / 8) = (q : Int) := by rw [wrap64 (by omega)]; omega
        have e2 : (q : Int).tmod 128 = (i : Int) := by rw [Int.tmod_eq_emod_of_nonneg (by omega)]; omega
        have e3 : (n : Int).tmod 8 = (r8 : Int) := by rw [Int.tmod_eq_emod_of_nonneg (by omega)]; omega
        have hiI : (i : Int) < 128 := by omega
        have e4 : IntKind.i64.wrap (7 - (r8 : Int)) = (t : Int) := by rw [wrap64 (by omega)]; omega
        obtain ⟨sv, hsv⟩ : ∃ sv, IntKind.u8.wrap (v * 2 ^ t) = sv := ⟨_, rfl⟩
        rw [hsv] at hz2
        obtain ⟨ad, had⟩ : ∃ ad : Addr, ad = ⟨b, 1 + i, none⟩ := ⟨_, rfl⟩
        have HAD := Lib.hid had
        clear had
        gi_wp2
        refine wpIn_draw (by kernel_rfl)
          [.pointer (some ⟨b, 0, none⟩), .pointer (some ⟨b, 0, none⟩), .pointer (some ⟨b, 0, none⟩), .pointer (some ⟨b, 129, none⟩), .int .i64 (n : Int), .int .i64 (q : Int), .int .i64 (i : Int), .pointer (some ⟨b, 0, none⟩), .pointer (some ⟨b, 0, none⟩), .pointer (some ⟨b, 1, none⟩), .pointer (some ⟨b, 1 + i, none⟩), .int .u8 (y.toNat : Int), .int .u8 v, .pointer (some ⟨b, 0, none⟩), .pointer (some ⟨b, 0, none⟩), .pointer (some ⟨b, 129, none⟩), .int .i64 (n : Int), .int .i64 (r8 : Int), .int .i64 (t : Int), .int .u8 sv, .int .u8 (z.toNat : Int), .pointer (some ⟨b, 0, none⟩), .pointer (some ⟨b, 0, none⟩), .pointer (some ⟨b, 1, none⟩), .pointer (some ⟨b, 1 + i, none⟩), undef]
          (Once 25 (Eqv W4) (Eqv (W4.setCell ad (.int .u8 (z.toNat : Int)))))
          rfl (by kernel_rfl) (fin := ?fin) ?hfin (Once.start (Eqv.drew W4)) ?each ?hend
        case hfin => simp [seqA, dstOf, Act.put]; rfl
        case each =>
          refine ⟨?_, ?_, ?_, ?_, ?_, ?_, ?_, ?_, ?_, ?_, ?_, ?_, ?_, ?_, ?_, ?_, ?_, ?_, ?_, ?_, ?_, ?_, ?_, ?_, ?_, ?_, trivial⟩
          all_goals intro L7 w7 h0 hd hs hw
          all_goals try simp only [Nat.zero_add, Nat.reduceAdd] at h0
          all_goals unfold Does
          all_goals try (go_simp; exact fun L' k => hw.same (by decide) k)
          · have hc := ((hw.1 (hs.no (by kernel_rfl) h0)).cell _).trans co
            go_simp; exact fun L' k => hw.same (by decide) k
          · have hc := ((hw.1 (hs.no (by kernel_rfl) h0)).cell _).trans co
            go_simp; exact fun L' k => hw.same (by decide) k
          · have hc := ((hw.1 (hs.no (by kernel_rfl) h0)).cell _).trans hcn
            go_simp; exact fun L' k => hw.same (by decide) k
          · have hc := ((hw.1 (hs.no (by kernel_rfl) h0)).cell _).trans hfit
            go_simp; exact fun L' k => hw.same (by decide) k
          · have hc := ((hw.1 (hs.no (by kernel_rfl) h0)).cell _).trans co
            go_simp; exact fun L' k => hw.same (by decide) k
          · have hc := ((hw.1 (hs.no (by kernel_rfl) h0)).cell _).trans hcn
            go_simp; exact fun L' k => hw.same (by decide) k
          · have hA := hw.1 h0
            have hc1 := (hA.cell _).trans hfit
            have hc2 := (hA.frozen _).trans hfz
            go_simp
            exact fun L' k => Once.done k (by rw [HAD.out]; exact hA.setCell _ _)
        case hend =>
          intro L7 w7 hL7 hw
          have hC := hw.2 (hL7 25 (by simp))
          rw [HAD.out] at hC
          have hO7 := HP.out.eqv hC
          have k7 : Only b W4 w7 := (Only.setCell W4 ⟨b, 1 + i, none⟩ _).trans (Only.eqv hC)
          have co7 := (k7.cell (p := ⟨X, 0, none⟩) (there_cell co) (by show X ≠ b; omega)).trans co
          have hs7 := step_any hO7 1 (by omega) (by omega) (by omega) (byt_past (by rw [List.length_append, HNN.out]; exact Nat.le_refl _))
          have HK7 := Lib.hid k7
          have HS7 := Lib.hid hs7
          clear hw hL7 hC hO7 k7 hs7 hz2 hfit hfz hcn
          gi_wp2
          refine ⟨trivial, CallsIn.inRound _ (callsIn_wide.2 ?_)⟩
          refine HS7.out.mono ?_
          rintro x0 w9 ⟨⟨u, rfl⟩, hO9, k9⟩
          gi_wp2
          have k49 := HK7.out.trans k9
          refine ⟨only_others (OutR.cnt HO.out) rfl k49, ?_, (k49.cell (p := ⟨X, 0, none⟩) (there_cell co) (by show X ≠ b; omega)).trans co, (k49.cell (p := ⟨X + 1, 0, none⟩) (there_cell HCX.out) (by show X + 1 ≠ b; omega)).trans HCX.out, HON.out.trans k49⟩
          unfold OutAt
          rw [List.length_append, HNN.out]; exact hO9
      · rintro x0 W'' ⟨rfl, h1, W', h2, rfl, h3⟩
        have hl4 : W'.heap[X + 3 + 1]? = some (.loop { r with state := .busy }) := h3.same _ _ (World.putObj_heap_same (Array.getElem?_eq_some_iff.1 hl.loop).1) rfl
        exact ⟨rfl, h1, h2.put _ (by omega) hl4 rfl⟩
    · exact (hW1.trans (Below.refl _ _)).cell (p := ⟨X + 1 + 1, 0, none⟩) (there_cell d2) |>.trans d2
    · exact ⟨hLp, (j0.grown (World.grownBy_alloc w3 _ none) (fun r e => by cases e)).grown (World.grownBy_alloc _ _ none) (fun r e => by cases e)⟩
  case done =>
    intro W o hE hd
    obtain ⟨⟨r, hl⟩, hj⟩ := hE
    have hj2 := hj.put o (by omega) hl rfl
    generalize W.putObj (w3.heap.size + 1) o = W5 at *
    gi_wp2
    refine ⟨by simp, .inl ⟨_, _, rfl, run_takeDeferred hd, ?_⟩⟩
    have hj3 := hj2.put (.deferred none) (by omega) hd rfl
    exact ⟨_, results_none rfl _ _ _, ⟨_, rfl⟩, hj3.out, hj3.on⟩
theorem write_any {b : Nat} {L : List Bool} {w : World} (h : OutAt b L w) (x N : Nat) (hx : x < 2 ^ 64) (hN : N ≤ 64) (hL : L.length + N ≤ 1000000) :
    Calls Try.prog 57 #[.pointer (some ⟨b, 0, none⟩), .int .u64 (un x), .int .i64 (N : Int)] w fun e w' => (∃ v, e = .returned v) ∧ OutAt b (L ++ lb x N) w' ∧ Only b w w' :=
  (callsIn_wide (n := 5)).1 (write_in h x N hx hN hL)
/-- The N lowest bits of x. -/
theorem put_ok {b : Nat} {L : List Bool} {w : World} (h : OutAt b L w) (x N : Nat) (hx : x < 2 ^ 64) (hN : N ≤ 64) (hL : L.length + N ≤ 1000000) :
    Calls Try.prog 37 #[.pointer (some ⟨b, 0, none⟩), .int .u64 (un x), .int .i64 (N : Int)] w fun e w' => e = .returned (.int .i64 0) ∧ OutAt b (L ++ lb x N) w' ∧ Only b w w' := by
  have HW := Lib.hid (write_any h x N hx hN hL)
  clear h hx
  have hn0 : ¬ ((N : Int) < 0) := by omega
  have hn1 : ¬ ((64 : Int) < (N : Int)) := by omega
  go_enter Try.func37, Try.ntmps37
  go_wp2_with (go_at_call 57; refine HW.out.mono ?_; rintro e w' ⟨⟨v, rfl⟩, h1, h2⟩)
  go_ret
  exact ⟨rfl, h1, h2⟩
theorem put_arg {b : Nat} {x : Int} {n : Int} {w : World} (hn : n < 0 ∨ n > 64) :
    Calls Try.prog 37 #[.pointer (some ⟨b, 0, none⟩), .int .u64 x, .int .i64 n] w fun e w' => e = .returned (.int .i64 1) ∧ w = w' := by
  go_enter Try.func37, Try.ntmps37
  rcases hn with hn | hn
  · go_wp2
    go_ret
    exact ⟨rfl, rfl⟩
  · have h1 : ¬ (n < 0) := by omega
    go_wp2
    go_ret
    exact ⟨rfl, rfl⟩
end Go.Proofs.Ytofnokikjfmfgaa
