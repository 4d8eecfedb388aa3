/-
  What the sums of package datagram and of the document answer: for up to a billion bytes. The memory that was there stays.
-/
import Derived.Test.YtggokcakikkdgaaDgMath
import Derived.Test.YtggokcakikkdgaaFlMath
import Derived.Test.YtggokcakikkdgaaScope
namespace Go.Proofs.Ytggokcakikkdgaa
open Go.RowKit Gf Dg Fl
set_option maxRecDepth 100000
def C2 (h l : Nat) : Value := .complex .f64 (fl h) (fl l)
theorem cadd (a b c d : Nat) (h : a + c ≤ 1000000000000) (k : b + d ≤ 1000000000000) (W : World) : (binOp .add 58 (.complex .f64 (fl a) (fl b)) (.complex .f64 (fl c) (fl d))).run Try.prog W = .ok (.complex .f64 (fl (a + c)) (fl (b + d))) W :=
  run_complex_sum W .add (.inl rfl) _ _ _ _ _ _ _ _ (fl_c a b c d (by omega) (by omega))
theorem toFl8 (x : UInt8) (W : World) : (convert 5 60 (.int .u8 (x.toNat : Int))).run Try.prog W = .ok (.float .f64 (fl x.toNat)) W :=
  run_convert_int_float W 5 60 .u8 .f64 (x.toNat : Int) (by rw [Try.underlying5]; rfl) Try.underlying60
def TwJ (w0 : World) (l : List UInt8) (a : Act) (w : World) : Prop :=
  ∃ (r : List UInt8) (H L : Nat), (H + hi r = hi l ∧ L + lo r = lo l ∧ r.length ≤ l.length) ∧ Eqv w0 w ∧ a.tmps.size = 28 ∧ a.defers = [] ∧ a.tmps.toList.take 4 = [.string (st r), undef, .complex .f64 0 0, .complex .f64 (fl H) (fl L)]
def strLen : Value → Nat | .string s => s.size | _ => 0
set_option maxHeartbeats 1600000 in
theorem twos_any (s : ByteArray) (w : World) (hs : s.size ≤ 1000000000) :
    Calls Try.prog 28 #[.string s] w fun e w' => e = .returned (.complex .f64 (fl (hi (ls s))) (fl (lo (ls s)))) ∧ Eqv w w' := by
  go_enter Try.func28, Try.ntmps28
  go_wp2
  refine scope_loop (rest := ?rest) 0 (TwJ w (ls s)) (fun a _ => strLen (a.tmps.getD 0 undef)) ?hf ?pass ?first
  case hf => rfl
  case first =>
    intro hrest
    have HREST := Lib.hid hrest
    clear hrest
    go_wp2
    go_step3
    rename_i hK
    refine hK _ _ (HREST.out _ _ ⟨ls s, 0, 0, ⟨by omega, by omega, Nat.le_refl _⟩, Eqv.refl _, rfl, rfl, ?_⟩)
    rw [st_ls, fl_zero]; rfl
  case pass =>
    rintro a w' ⟨r, H, L, ⟨hH, hL, hr⟩, he, hfs, hfd, hft⟩
    obtain ⟨us, rfl⟩ := frameN 24 [.string (st r), undef, .complex .f64 0 0, .complex .f64 (fl H) (fl L)] hfs hfd hft
    simp only [tailF, List.cons_append, List.nil_append, Nat.reduceAdd]
    have hsz := st_size r
    have hd := toFl8
    clear hfs hfd hft
    have b1 := hi_le (ls s)
    have b2 := lo_le (ls s)
    rw [← ls_size] at b1 b2
    match r with
    | [] =>
      have HH := Lib.hid (show hi (ls s) = H by simp only [hi] at hH; omega)
      have HL := Lib.hid (show lo (ls s) = L by simp only [lo] at hL; omega)
      clear hH hL hr hd b1 b2
      have hem : (st []).size = 0 := rfl
      go_wp2
      show bodyPost Try.prog Try.f28 (fun e w' => e = .returned (.complex .f64 (fl (hi (ls s))) (fl (lo (ls s)))) ∧ Eqv w w') Exit.ret _ _
      go_ret
      rw [HH.out, HL.out]
      exact ⟨rfl, he⟩
    | [x] =>
      simp only [hi, lo] at hH hL
      have hadd := cadd H L x.toNat 0 (by omega) (by omega)
      rw [fl_zero] at hadd
      have HH := Lib.hid hH
      have HL := Lib.hid hL
      obtain ⟨S, hS⟩ : ∃ S, st [x] = S := ⟨_, rfl⟩
      have hsz1 : S.size = 1 := by rw [← hS]; rfl
      have hg : S[0] = x := by subst hS; rfl
      rw [hS]
      clear hH hL hr b1 b2 hsz hS
      go_wp2
      show bodyPost Try.prog Try.f28 (fun e w' => e = .returned (.complex .f64 (fl (hi (ls s))) (fl (lo (ls s)))) ∧ Eqv w w') Exit.ret _ _
      go_ret
      rw [← HH.out, ← HL.out]
      exact ⟨rfl, he⟩
    | x :: y :: r =>
      simp only [hi, lo] at hH hL
      have hadd := cadd H L x.toNat y.toNat (by omega) (by omega)
      have HH := Lib.hid hH
      have HL := Lib.hid hL
      obtain ⟨S, hS⟩ : ∃ S, st (x :: y :: r) = S := ⟨_, rfl⟩
      obtain ⟨m, hm⟩ : ∃ m, S.size = m + 2 := ⟨r.length, by rw [← hS, st_size]; rfl⟩
      have hg0 : S[0] = x := by subst hS; rfl
      have hg1 : S[1] = y := by subst hS; rfl
      have HX := Lib.hid (show S.extract 2 S.size = st r by rw [← st_ls (S.extract 2 S.size), ls_part, ← hS, ls_st, st_size]; simp)
      have HR := Lib.hid (show r.length ≤ (ls s).length by simp at hr; omega)
      rw [hS]
      rw [hm] at HX
      clear hH hL hr b1 b2 hsz hS
      go_wp2
      go_quiet (fail)
      go_wp2
      go_step3
      refine ⟨rfl, ⟨r, H + x.toNat, L + y.toNat, ⟨by have := HH.out; omega, by have := HL.out; omega, HR.out⟩, he.trans (Eqv.drewN _ _), rfl, rfl, by rw [← HX.out]; rfl⟩, ?_⟩
      show (S.extract 2 (m + 2)).size < S.size
      rw [hm, HX.out, st_size]
      have e1 : (S.extract 2 (m + 2)).size = m := by rw [ByteArray.size_extract, hm]; omega
      rw [HX.out, st_size] at e1
      omega
/-- A number as it is folded. -/
def FoJ (w0 : World) (t : Nat) (a : Act) (w : World) : Prop :=
  ∃ u : Int, (0 ≤ u ∧ u ≤ (t : Int)) ∧ rep u.toNat = rep t ∧ w0 = w ∧ a.tmps.size = 11 ∧ a.defers = [] ∧ a.tmps.toList.take 3 = [.int .u64 u, undef, .int .u64 0]
def natOf : Value → Nat | .int _ n => n.toNat | _ => 0
theorem u64_low {u : Int} (h0 : 0 ≤ u) (h1 : u ≤ 1000000000000000) : bits BinOp.and IntKind.u64 u 65535 = u % 65536 := by
  rw [u64_and u 65535 h0 (by omega) (by omega) (by omega)]
  show ((u.toNat &&& 65535 : Nat) : Int) = _
  rw [show 65535 = 2 ^ 16 - 1 from rfl, Nat.and_two_pow_sub_one_eq_mod]
  omega
set_option maxHeartbeats 1600000 in
theorem fold_any (t : Nat) (u : Int) (w : World) (ht : t ≤ 1000000000000000) (hu : u = (t : Int)) :
    Calls Try.prog 29 #[.int .u64 u] w fun e w' => e = .returned (.int .u64 (rep t : Int)) ∧ w = w' := by
  have HT := Lib.hid hu
  have hu0 : 0 ≤ u := by omega
  have hu1 : u ≤ 1000000000000000 := by omega
  clear hu
  have HTT := Lib.hid ht
  clear ht
  go_enter Try.func29, Try.ntmps29
  go_wp2
  refine scope_loop (rest := ?rest) 0 (FoJ w t) (fun a _ => natOf (a.tmps.getD 0 undef)) ?hf ?pass ?first
  case hf => rfl
  case first =>
    intro hrest
    have HREST := Lib.hid hrest
    clear hrest
    go_wp2
    go_step3
    rename_i hK
    refine hK _ _ (HREST.out _ _ ⟨u, ⟨hu0, by rw [HT.out]; omega⟩, ?_, rfl, rfl, rfl, rfl⟩)
    rw [HT.out]; rfl
  case pass =>
    rintro a w' ⟨u, ⟨hu2, hu3⟩, hrep, rfl, hfs, hfd, hft⟩
    obtain ⟨us, rfl⟩ := frameN 8 [.int .u64 u, undef, .int .u64 0] hfs hfd hft
    simp only [tailF, List.cons_append, List.nil_append, Nat.reduceAdd]
    have hu4 : u ≤ 1000000000000000 := by have := HTT.out; omega
    have HRP := Lib.hid hrep
    have HU3 := Lib.hid hu3
    clear hfs hfd hft hrep hu3
    have HL := u64_low hu2 hu4
    by_cases hc : 65535 < u
    · go_wp2
      go_step3
      refine ⟨rfl, ⟨u % 65536 + u / 65536, ⟨by omega, by have := HU3.out; omega⟩, ?_, rfl, rfl, rfl, rfl⟩, ?_⟩
      · have e1 : (u % 65536 + u / 65536).toNat = u.toNat % 65536 + u.toNat / 65536 := by omega
        rw [e1, rep_fold]; exact HRP.out
      · show (u % 65536 + u / 65536).toNat < u.toNat
        omega
    · go_wp2
      show bodyPost Try.prog Try.f29 (fun e w' => e = .returned (.int .u64 (rep t : Int)) ∧ w = w') Exit.ret _ _
      go_ret
      exact ⟨ret_int (by have := HRP.out; rw [rep_small (by omega)] at this; omega), rfl⟩
def oddB (l : List UInt8) : Bool := l.length % 2 != 0
theorem oddB_append (a b : List UInt8) : oddB (a ++ b) = (!oddB a == oddB b) := by
  unfold oddB
  rw [List.length_append]
  have e : ∀ x : Nat, x % 2 = 0 ∨ x % 2 = 1 := fun x => by omega
  have e2 : (a.length + b.length) % 2 = (a.length % 2 + b.length % 2) % 2 := by omega
  rw [e2]
  rcases e a.length with h | h <;> rcases e b.length with k | k <;> rw [h, k] <;> rfl
theorem flat_nx {l : List (List UInt8)} {k : Nat} (h : k < l.length) : (l.take (k + 1)).flatten = (l.take k).flatten ++ l.getD k [] := by
  rw [List.take_succ_eq_append_getElem h, List.flatten_append, List.getD_eq_getElem?_getD, List.getElem?_eq_getElem h]
  simp
theorem flat_le (l : List (List UInt8)) (k : Nat) : (l.take k).flatten.length ≤ l.flatten.length := by
  have h : l.flatten = (l.take k).flatten ++ (l.drop k).flatten := by rw [← List.flatten_append, List.take_append_drop]
  rw [h, List.length_append]; omega
def smRel (w : World) (l : List (List UInt8)) (c o i : Value) (wr : World) : Prop :=
  ∃ (k : Nat) (F : List UInt8), k ≤ l.length ∧ F = (l.take k).flatten ∧ c = .complex .f64 (fl (hi F)) (fl (lo F)) ∧ o = .bool (oddB F) ∧ i = .int .i64 (k : Int) ∧ Eqv w wr
theorem ofFl (n : Nat) (h : n ≤ 1000000000000) (W : World) : (convert 60 61 (.float .f64 (fl n))).run Try.prog W = .ok (.int .u64 (n : Int)) W :=
  run_convert_float_int W 60 61 .f64 .u64 (fl n) (n : Int) (by rw [Try.underlying60]; rfl) Try.underlying61 (fl_int n (by omega) .u64 ⟨by show (0 : Int) ≤ _; omega, by show (n : Int) ≤ 18446744073709551615; omega⟩)
set_option maxHeartbeats 1600000 in
theorem dgsum_any (a : Option Addr) (len cap : Nat) (l : List (List UInt8)) (w : World) (hI : IsT w a len l) (hn : l.length ≤ 100000) (hs : l.flatten.length ≤ 1000000000) :
    Calls Try.prog 16 #[.slice a len cap] w fun e w' => e = .returned (.int .i64 (csum l.flatten)) ∧ Eqv w w' := by
  obtain ⟨rfl, _⟩ := id hI
  go_enter Try.func16, Try.ntmps16
  go_wp2
  go_loopw [3, 4, 10] (fun c o i wr => smRel w l c o i wr) (fun _ _ i _ => l.length - (intOf i).toNat)
  case atStart => exact ⟨0, [], by omega, rfl, by rw [show hi [] = 0 from rfl, show lo [] = 0 from rfl, fl_zero], rfl, rfl, Eqv.refl w⟩
  case round =>
    obtain ⟨k, F, hk, hF, rfl, rfl, rfl, he⟩ := hrel
    have hfl := flat_le l k
    rw [← hF] at hfl
    by_cases hlt : k < l.length
    · obtain ⟨b1, off1, rfl, hc⟩ := hI.get hlt
      have hc2 := (he.cell ⟨b1, off1 + k, none⟩).trans hc
      have hnx := flat_nx hlt
      rw [← hF] at hnx
      have hfl2 := flat_le l (k + 1)
      rw [hnx] at hfl2
      obtain ⟨t, ht⟩ : ∃ t, l.getD k [] = t := ⟨_, rfl⟩
      rw [ht] at hc2 hnx hfl2
      rw [List.length_append] at hfl2
      have HNX := Lib.hid hnx
      have hz : (st t).size ≤ 1000000000 := by rw [st_size]; omega
      clear hc hF hnx ht
      go_wp2_with fail
      refine (twos_any (st t) wr hz).mono ?_
      rintro e w1 ⟨rfl, he1⟩
      rw [ls_st]
      have f1 := hi_le F
      have f2 := lo_le F
      have t1 := hi_le t
      have t2 := lo_le t
      have hap := hilo_append F t
      have hob := oddB_append F t
      have hso : (((((st t).size : Nat) : Int) % 2 != 0)) = oddB t := by
        rw [st_size]; unfold oddB
        rw [Bool.eq_iff_iff]; simp; omega
      have HSO := Lib.hid hso
      have HE2 := Lib.hid (he.trans he1)
      clear hI he he1 hc2
      clear hso
      cases hO : oddB F
      · have hev : F.length % 2 = 0 := by unfold oddB at hO; simpa using hO
        rw [if_pos hev, if_pos hev] at hap
        rw [hO] at hob
        have ha := cadd (hi F) (lo F) (hi t) (lo t) (by omega) (by omega)
        have HAP := Lib.hid hap
        have HOB := Lib.hid hob
        clear hap hob hO
        go_wp2
        go_roundw
        case rel => exact ⟨k + 1, F ++ t, by omega, HNX.out.symm, by rw [HAP.out.1, HAP.out.2], by rw [HOB.out, HSO.out]; cases oddB t <;> rfl, by go_num, HE2.out⟩
        case measure => simp [intOf]; omega
      · have hev : ¬ F.length % 2 = 0 := by unfold oddB at hO; simpa using hO
        rw [if_neg hev, if_neg hev] at hap
        rw [hO] at hob
        have ha := cadd (hi F) (lo F) (lo t) (hi t) (by omega) (by omega)
        have HAP := Lib.hid hap
        have HOB := Lib.hid hob
        clear hap hob hO
        go_wp2
        go_roundw
        case rel => exact ⟨k + 1, F ++ t, by omega, HNX.out.symm, by rw [HAP.out.1, HAP.out.2], by rw [HOB.out, HSO.out]; cases oddB t <;> rfl, by go_num, HE2.out⟩
        case measure => simp [intOf]; omega
    · have HE := Lib.hid (show F = l.flatten by rw [hF, List.take_of_length_le (by omega)])
      have f1 := hi_le F
      have f2 := lo_le F
      obtain ⟨H, hH⟩ : ∃ H, hi F = H := ⟨_, rfl⟩
      obtain ⟨L, hL⟩ : ∃ L, lo F = L := ⟨_, rfl⟩
      rw [hH] at f1
      rw [hL] at f2
      have o1 := ofFl H (by omega)
      have o2 := ofFl L (by omega)
      have HT := Lib.hid (show tot l.flatten = 256 * H + L by rw [← HE.out]; unfold tot; rw [hH, hL])
      have hH1 : H ≤ 255000000000 := by omega
      have hL1 : L ≤ 255000000000 := by omega
      rw [hH, hL]
      clear hF hH hL f1 f2 hI
      go_wp2_with fail
      refine (fold_any (256 * H + L) _ wr (by omega) ?_).mono ?_
      · omega
      rintro e w1 ⟨rfl, rfl⟩
      have r1 := rep_le (256 * H + L)
      have r2 : (0 : Int) ≤ (rep (256 * H + L) : Int) := by omega
      have HC := Lib.hid (show csum l.flatten = 65535 - (rep (256 * H + L) : Int) by unfold csum; rw [HT.out])
      go_wp2
      go_ret
      exact ⟨by rw [HC.out]; rfl, he⟩
def rsRel (l : List UInt8) (n i : Value) : Prop := ∃ (k : Nat) (m : Int), k % 2 = 0 ∧ k ≤ l.length + 1 ∧ (0 ≤ m ∧ m ≤ 65535) ∧ m = (rep (tot (l.take k)) : Int) ∧ n = .int .i64 m ∧ i = .int .i64 (k : Int)
theorem rep_go {t v : Nat} {m : Int} (hv : v ≤ 65535) (hm : m = (rep t : Int)) : (m + (v : Int) ≤ 65535 → ((rep (t + v) : Nat) : Int) = m + (v : Int)) ∧ (65535 < m + (v : Int) → ((rep (t + v) : Nat) : Int) = m + (v : Int) - 65535) := by
  have h := rep_add t v hv
  constructor
  · intro k; rw [if_neg (by omega)] at h; omega
  · intro k; rw [if_pos (by omega)] at h; omega
set_option maxHeartbeats 1600000 in
theorem dgrsum_any (s : ByteArray) (w : World) (hs : s.size ≤ 1000000000) :
    Calls Try.prog 17 #[.string s] w fun e w' => e = .returned (.int .i64 (csum (ls s))) ∧ w = w' := by
  go_enter Try.func17, Try.ntmps17
  go_wp2
  go_loop [3, 4] (fun n i => rsRel (ls s) n i) (fun _ i => s.size + 2 - (intOf i).toNat)
  case atStart => exact ⟨0, 0, rfl, by omega, ⟨by omega, by omega⟩, rfl, rfl, rfl⟩
  case round =>
    obtain ⟨k, m, hk2, hk, ⟨m0, m1⟩, hm, rfl, rfl⟩ := hrel
    rw [← ls_size] at hk
    by_cases hlt : k < s.size
    · have g0 := ls_get s k hlt
      obtain ⟨x, hx⟩ : ∃ x, s[k] = x := ⟨_, rfl⟩
      rw [hx] at g0
      have x0 := u8_bd x
      obtain ⟨X, hX⟩ : ∃ X : Int, (x.toNat : Int) = X := ⟨_, rfl⟩
      rw [hX] at x0
      obtain ⟨x1, x2⟩ := x0
      by_cases hlt2 : k + 1 < s.size
      · have g1 := ls_get s (k + 1) hlt2
        obtain ⟨y, hy⟩ : ∃ y, s[k + 1] = y := ⟨_, rfl⟩
        rw [hy] at g1
        have y0 := u8_bd y
        obtain ⟨Y, hY⟩ : ∃ Y : Int, (y.toNat : Int) = Y := ⟨_, rfl⟩
        rw [hY] at y0
        obtain ⟨y1, y2⟩ := y0
        have hr := rep_two (l := ls s) hk2 (by rw [← ls_size]; exact hlt2)
        rw [← g0, ← g1] at hr
        have hv : ((256 * x.toNat + y.toNat : Nat) : Int) = 256 * X + Y := by omega
        obtain ⟨q1, q2⟩ := rep_go (t := tot ((ls s).take k)) (v := 256 * x.toNat + y.toNat) (by omega) hm
        rw [← hr, hv] at q1 q2
        have Q1 := Lib.hid q1
        have Q2 := Lib.hid q2
        clear q1 q2 hr hm g0 g1 hv
        by_cases hc : 65535 < m + (256 * X + Y)
        · have hc2 : 65535 < m + 256 * X + Y := by omega
          clear hc
          go_wp2
          go_round
          case rel => exact ⟨k + 2, _, by omega, by rw [← ls_size]; omega, ⟨by omega, by omega⟩, by rw [Q2.out (by omega)]; omega, rfl, by go_num⟩
          case measure => simp [intOf]; omega
        · have hc2 : ¬ 65535 < m + 256 * X + Y := by omega
          clear hc
          go_wp2
          go_round
          case rel => exact ⟨k + 2, _, by omega, by rw [← ls_size]; omega, ⟨by omega, by omega⟩, by rw [Q1.out (by omega)]; omega, rfl, by go_num⟩
          case measure => simp [intOf]; omega
      · have hr := rep_one (l := ls s) hk2 (by rw [← ls_size]; exact hlt) (by rw [← ls_size]; exact hlt2)
        rw [← g0] at hr
        have hv : ((256 * x.toNat : Nat) : Int) = 256 * X := by omega
        obtain ⟨q1, q2⟩ := rep_go (t := tot ((ls s).take k)) (v := 256 * x.toNat) (by omega) hm
        rw [← hr, hv] at q1 q2
        have Q1 := Lib.hid q1
        have Q2 := Lib.hid q2
        clear q1 q2 hr hm g0 hv
        by_cases hc : 65535 < m + 256 * X
        · go_wp2
          go_round
          case rel => exact ⟨k + 2, _, by omega, by rw [← ls_size]; omega, ⟨by omega, by omega⟩, by rw [Q2.out (by omega)], rfl, by go_num⟩
          case measure => simp [intOf]; omega
        · go_wp2
          go_round
          case rel => exact ⟨k + 2, _, by omega, by rw [← ls_size]; omega, ⟨by omega, by omega⟩, by rw [Q1.out (by omega)], rfl, by go_num⟩
          case measure => simp [intOf]; omega
    · have HC := Lib.hid (show csum (ls s) = 65535 - m by unfold csum; rw [hm, List.take_of_length_le (by rw [← ls_size]; omega)])
      clear hm
      go_wp2
      go_ret
      exact ⟨by rw [HC.out]; rfl, rfl⟩
end Go.Proofs.Ytggokcakikkdgaa
