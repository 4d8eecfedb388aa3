/-
  What Sum, Peek and Check of package datagram answer, and the document's. The memory that was there stays.
-/
import Derived.StillTailTactics
import Derived.Test.YtpkidopnkofccaaDgMath
import Derived.Test.YtpkidopnkofccaaFlMath
import Derived.Test.YtpkidopnkofccaaBase
namespace Go.Proofs.Ytpkidopnkofccaa
open Go.RowKit Gf Dg Fl
set_option maxRecDepth 100000
def C2 (h l : Nat) : Value := .complex .f64 (fl h) (fl l)
theorem cadd (a b c d : Nat) (h : a + c ≤ 1000000000000) (k : b + d ≤ 1000000000000) (W : World) : (binOp .add 81 (.complex .f64 (fl a) (fl b)) (.complex .f64 (fl c) (fl d))).run Try.prog W = .ok (.complex .f64 (fl (a + c)) (fl (b + d))) W :=
  run_complex_sum W .add (.inl rfl) _ _ _ _ _ _ _ _ (fl_c a b c d (by omega) (by omega))
theorem toFl8 (x : UInt8) (W : World) : (convert 5 90 (.int .u8 (x.toNat : Int))).run Try.prog W = .ok (.float .f64 (fl x.toNat)) W :=
  run_convert_int_float W 5 90 .u8 .f64 (x.toNat : Int) (by rw [Try.underlying5]; rfl) Try.underlying90
def TwJ (w0 : World) (l : List UInt8) (a : Act) (w : World) : Prop :=
  ∃ (r : List UInt8) (H L : Nat), (H + hi r = hi l ∧ L + lo r = lo l ∧ r.length ≤ l.length) ∧ Eqv w0 w ∧ a.tmps.size = 28 ∧ a.defers = [] ∧ a.tmps.toList.take 4 = [.string (st r), undef, .complex .f64 0 0, .complex .f64 (fl H) (fl L)]
def strLen : Value → Nat | .string s => s.size | _ => 0
set_option maxHeartbeats 1600000 in
theorem twos_any (s : ByteArray) (w : World) (hs : s.size ≤ 1000000000) :
    Calls Try.prog 83 #[.string s] w fun e w' => e = .returned (.complex .f64 (fl (hi (ls s))) (fl (lo (ls s)))) ∧ Eqv w w' := by
  go_enter Try.func83, Try.ntmps83
  go_wp2
  refine scope_loop (rest := ?rest) 0 (TwJ w (ls s)) (fun a _ => strLen (a.tmps.getD 0 undef)) ?hf ?pass ?first
  case hf => rfl
  case first =>
    intro hrest
    have HREST := Lib.hid hrest
    clear hrest
    go_wp2
    go_step3
    rename_i hK
    refine hK _ _ (HREST.out _ _ ⟨ls s, 0, 0, ⟨by omega, by omega, Nat.le_refl _⟩, Eqv.refl _, rfl, rfl, ?_⟩)
    rw [st_ls, fl_zero]; rfl
  case pass =>
    rintro a w' ⟨r, H, L, ⟨hH, hL, hr⟩, he, hfs, hfd, hft⟩
    obtain ⟨us, rfl⟩ := frameN 24 [.string (st r), undef, .complex .f64 0 0, .complex .f64 (fl H) (fl L)] hfs hfd hft
    simp only [tailF, List.cons_append, List.nil_append, Nat.reduceAdd]
    have hsz := st_size r
    have hd := toFl8
    clear hfs hfd hft
    have b1 := hi_le (ls s)
    have b2 := lo_le (ls s)
    rw [← ls_size] at b1 b2
    match r with
    | [] =>
      have HH := Lib.hid (show hi (ls s) = H by simp only [hi] at hH; omega)
      have HL := Lib.hid (show lo (ls s) = L by simp only [lo] at hL; omega)
      clear hH hL hr hd b1 b2
      have hem : (st []).size = 0 := rfl
      go_wp2
      show bodyPost Try.prog Try.f83 (fun e w' => e = .returned (.complex .f64 (fl (hi (ls s))) (fl (lo (ls s)))) ∧ Eqv w w') Exit.ret _ _
      go_ret
      rw [HH.out, HL.out]
      exact ⟨rfl, he⟩
    | [x] =>
      simp only [hi, lo] at hH hL
      have hadd := cadd H L x.toNat 0 (by omega) (by omega)
      rw [fl_zero] at hadd
      have HH := Lib.hid hH
      have HL := Lib.hid hL
      obtain ⟨S, hS⟩ : ∃ S, st [x] = S := ⟨_, rfl⟩
      have hsz1 : S.size = 1 := by rw [← hS]; rfl
      have hg : S[0] = x := by subst hS; rfl
      rw [hS]
      clear hH hL hr b1 b2 hsz hS
      go_wp2
      show bodyPost Try.prog Try.f83 (fun e w' => e = .returned (.complex .f64 (fl (hi (ls s))) (fl (lo (ls s)))) ∧ Eqv w w') Exit.ret _ _
      go_ret
      rw [← HH.out, ← HL.out]
      exact ⟨rfl, he⟩
    | x :: y :: r =>
      simp only [hi, lo] at hH hL
      have hadd := cadd H L x.toNat y.toNat (by omega) (by omega)
      have HH := Lib.hid hH
      have HL := Lib.hid hL
      obtain ⟨S, hS⟩ : ∃ S, st (x :: y :: r) = S := ⟨_, rfl⟩
      obtain ⟨m, hm⟩ : ∃ m, S.size = m + 2 := ⟨r.length, by rw [← hS, st_size]; rfl⟩
      have hg0 : S[0] = x := by subst hS; rfl
      have hg1 : S[1] = y := by subst hS; rfl
      have HX := Lib.hid (show S.extract 2 S.size = st r by rw [← st_ls (S.extract 2 S.size), ls_part, ← hS, ls_st, st_size]; simp)
      have HR := Lib.hid (show r.length ≤ (ls s).length by simp at hr; omega)
      rw [hS]
      rw [hm] at HX
      clear hH hL hr b1 b2 hsz hS
      go_wp2
      go_quiet (fail)
      go_wp2
      go_step3
      refine ⟨rfl, ⟨r, H + x.toNat, L + y.toNat, ⟨by have := HH.out; omega, by have := HL.out; omega, HR.out⟩, he.trans (Eqv.drewN _ _), rfl, rfl, by rw [← HX.out]; rfl⟩, ?_⟩
      show (S.extract 2 (m + 2)).size < S.size
      rw [hm, HX.out, st_size]
      have e1 : (S.extract 2 (m + 2)).size = m := by rw [ByteArray.size_extract, hm]; omega
      rw [HX.out, st_size] at e1
      omega
/-- A number as it is folded. -/
def FoJ (w0 : World) (t : Nat) (a : Act) (w : World) : Prop :=
  ∃ u : Int, (0 ≤ u ∧ u ≤ (t : Int)) ∧ rep u.toNat = rep t ∧ w0 = w ∧ a.tmps.size = 11 ∧ a.defers = [] ∧ a.tmps.toList.take 3 = [.int .u64 u, undef, .int .u64 0]
def natOf : Value → Nat | .int _ n => n.toNat | _ => 0
theorem u64_low {u : Int} (h0 : 0 ≤ u) (h1 : u ≤ 1000000000000000) : bits BinOp.and IntKind.u64 u 65535 = u % 65536 := by
  rw [u64_and u 65535 h0 (by omega) (by omega) (by omega)]
  show ((u.toNat &&& 65535 : Nat) : Int) = _
  rw [show 65535 = 2 ^ 16 - 1 from rfl, Nat.and_two_pow_sub_one_eq_mod]
  omega
set_option maxHeartbeats 1600000 in
theorem fold_any (t : Nat) (u : Int) (w : World) (ht : t ≤ 1000000000000000) (hu : u = (t : Int)) :
    Calls Try.prog 84 #[.int .u64 u] w fun e w' => e = .returned (.int .u64 (rep t : Int)) ∧ w = w' := by
  have HT := Lib.hid hu
  have hu0 : 0 ≤ u := by omega
  have hu1 : u ≤ 1000000000000000 := by omega
  clear hu
  have HTT := Lib.hid ht
  clear ht
  go_enter Try.func84, Try.ntmps84
  go_wp2
  refine scope_loop (rest := ?rest) 0 (FoJ w t) (fun a _ => natOf (a.tmps.getD 0 undef)) ?hf ?pass ?first
  case hf => rfl
  case first =>
    intro hrest
    have HREST := Lib.hid hrest
    clear hrest
    go_wp2
    go_step3
    rename_i hK
    refine hK _ _ (HREST.out _ _ ⟨u, ⟨hu0, by rw [HT.out]; omega⟩, ?_, rfl, rfl, rfl, rfl⟩)
    rw [HT.out]; rfl
  case pass =>
    rintro a w' ⟨u, ⟨hu2, hu3⟩, hrep, rfl, hfs, hfd, hft⟩
    obtain ⟨us, rfl⟩ := frameN 8 [.int .u64 u, undef, .int .u64 0] hfs hfd hft
    simp only [tailF, List.cons_append, List.nil_append, Nat.reduceAdd]
    have hu4 : u ≤ 1000000000000000 := by have := HTT.out; omega
    have HRP := Lib.hid hrep
    have HU3 := Lib.hid hu3
    clear hfs hfd hft hrep hu3
    have HL := u64_low hu2 hu4
    by_cases hc : 65535 < u
    · go_wp2
      go_step3
      refine ⟨rfl, ⟨u % 65536 + u / 65536, ⟨by omega, by have := HU3.out; omega⟩, ?_, rfl, rfl, rfl, rfl⟩, ?_⟩
      · have e1 : (u % 65536 + u / 65536).toNat = u.toNat % 65536 + u.toNat / 65536 := by omega
        rw [e1, rep_fold]; exact HRP.out
      · show (u % 65536 + u / 65536).toNat < u.toNat
        omega
    · go_wp2
      show bodyPost Try.prog Try.f84 (fun e w' => e = .returned (.int .u64 (rep t : Int)) ∧ w = w') Exit.ret _ _
      go_ret
      exact ⟨ret_int (by have := HRP.out; rw [rep_small (by omega)] at this; omega), rfl⟩
def oddB (l : List UInt8) : Bool := l.length % 2 != 0
theorem oddB_append (a b : List UInt8) : oddB (a ++ b) = (!oddB a == oddB b) := by
  unfold oddB
  rw [List.length_append]
  have e : ∀ x : Nat, x % 2 = 0 ∨ x % 2 = 1 := fun x => by omega
  have e2 : (a.length + b.length) % 2 = (a.length % 2 + b.length % 2) % 2 := by omega
  rw [e2]
  rcases e a.length with h | h <;> rcases e b.length with k | k <;> rw [h, k] <;> rfl
theorem flat_nx {l : List (List UInt8)} {k : Nat} (h : k < l.length) : (l.take (k + 1)).flatten = (l.take k).flatten ++ l.getD k [] := by
  rw [List.take_succ_eq_append_getElem h, List.flatten_append, List.getD_eq_getElem?_getD, List.getElem?_eq_getElem h]
  simp
theorem flat_le (l : List (List UInt8)) (k : Nat) : (l.take k).flatten.length ≤ l.flatten.length := by
  have h : l.flatten = (l.take k).flatten ++ (l.drop k).flatten := by rw [← List.flatten_append, List.take_append_drop]
  rw [h, List.length_append]; omega
def smRel (w : World) (l : List (List UInt8)) (c o i : Value) (wr : World) : Prop :=
  ∃ (k : Nat) (F : List UInt8), k ≤ l.length ∧ F = (l.take k).flatten ∧ c = .complex .f64 (fl (hi F)) (fl (lo F)) ∧ o = .bool (oddB F) ∧ i = .int .i64 (k : Int) ∧ Eqv w wr
theorem ofFl (n : Nat) (h : n ≤ 1000000000000) (W : World) : (convert 90 129 (.float .f64 (fl n))).run Try.prog W = .ok (.int .u64 (n : Int)) W :=
  run_convert_float_int W 90 129 .f64 .u64 (fl n) (n : Int) (by rw [Try.underlying90]; rfl) Try.underlying129 (fl_int n (by omega) .u64 ⟨by show (0 : Int) ≤ _; omega, by show (n : Int) ≤ 18446744073709551615; omega⟩)
set_option maxHeartbeats 1600000 in
theorem dgsum_any (a : Option Addr) (len cap : Nat) (l : List (List UInt8)) (w : World) (hI : IsT w a len l) (hn : l.length ≤ 100000) (hs : l.flatten.length ≤ 1000000000) :
    Calls Try.prog 63 #[.slice a len cap] w fun e w' => e = .returned (.int .i64 (csum l.flatten)) ∧ Eqv w w' := by
  obtain ⟨rfl, _⟩ := id hI
  go_enter Try.func63, Try.ntmps63
  go_wp2
  go_loopw [3, 4, 10] (fun c o i wr => smRel w l c o i wr) (fun _ _ i _ => l.length - (intOf i).toNat)
  case atStart => exact ⟨0, [], by omega, rfl, by rw [show hi [] = 0 from rfl, show lo [] = 0 from rfl, fl_zero], rfl, rfl, Eqv.refl w⟩
  case round =>
    obtain ⟨k, F, hk, hF, rfl, rfl, rfl, he⟩ := hrel
    have hfl := flat_le l k
    rw [← hF] at hfl
    by_cases hlt : k < l.length
    · obtain ⟨b1, off1, rfl, hc⟩ := hI.get hlt
      have hc2 := (he.cell ⟨b1, off1 + k, none⟩).trans hc
      have hnx := flat_nx hlt
      rw [← hF] at hnx
      have hfl2 := flat_le l (k + 1)
      rw [hnx] at hfl2
      obtain ⟨t, ht⟩ : ∃ t, l.getD k [] = t := ⟨_, rfl⟩
      rw [ht] at hc2 hnx hfl2
      rw [List.length_append] at hfl2
      have HNX := Lib.hid hnx
      have hz : (st t).size ≤ 1000000000 := by rw [st_size]; omega
      clear hc hF hnx ht
      go_wp2_with fail
      refine (twos_any (st t) wr hz).mono ?_
      rintro e w1 ⟨rfl, he1⟩
      rw [ls_st]
      have f1 := hi_le F
      have f2 := lo_le F
      have t1 := hi_le t
      have t2 := lo_le t
      have hap := hilo_append F t
      have hob := oddB_append F t
      have hso : (((((st t).size : Nat) : Int) % 2 != 0)) = oddB t := by
        rw [st_size]; unfold oddB
        rw [Bool.eq_iff_iff]; simp; omega
      have HSO := Lib.hid hso
      have HE2 := Lib.hid (he.trans he1)
      clear hI he he1 hc2
      clear hso
      cases hO : oddB F
      · have hev : F.length % 2 = 0 := by unfold oddB at hO; simpa using hO
        rw [if_pos hev, if_pos hev] at hap
        rw [hO] at hob
        have ha := cadd (hi F) (lo F) (hi t) (lo t) (by omega) (by omega)
        have HAP := Lib.hid hap
        have HOB := Lib.hid hob
        clear hap hob hO
        go_wp2
        go_roundw
        case rel => exact ⟨k + 1, F ++ t, by omega, HNX.out.symm, by rw [HAP.out.1, HAP.out.2], by rw [HOB.out, HSO.out]; cases oddB t <;> rfl, by go_num, HE2.out⟩
        case measure => simp [intOf]; omega
      · have hev : ¬ F.length % 2 = 0 := by unfold oddB at hO; simpa using hO
        rw [if_neg hev, if_neg hev] at hap
        rw [hO] at hob
        have ha := cadd (hi F) (lo F) (lo t) (hi t) (by omega) (by omega)
        have HAP := Lib.hid hap
        have HOB := Lib.hid hob
        clear hap hob hO
        go_wp2
        go_roundw
        case rel => exact ⟨k + 1, F ++ t, by omega, HNX.out.symm, by rw [HAP.out.1, HAP.out.2], by rw [HOB.out, HSO.out]; cases oddB t <;> rfl, by go_num, HE2.out⟩
        case measure => simp [intOf]; omega
    · have HE := Lib.hid (show F = l.flatten by rw [hF, List.take_of_length_le (by omega)])
      have f1 := hi_le F
      have f2 := lo_le F
      obtain ⟨H, hH⟩ : ∃ H, hi F = H := ⟨_, rfl⟩
      obtain ⟨L, hL⟩ : ∃ L, lo F = L := ⟨_, rfl⟩
      rw [hH] at f1
      rw [hL] at f2
      have o1 := ofFl H (by omega)
      have o2 := ofFl L (by omega)
      have HT := Lib.hid (show tot l.flatten = 256 * H + L by rw [← HE.out]; unfold tot; rw [hH, hL])
      have hH1 : H ≤ 255000000000 := by omega
      have hL1 : L ≤ 255000000000 := by omega
      rw [hH, hL]
      clear hF hH hL f1 f2 hI
      go_wp2_with fail
      refine (fold_any (256 * H + L) _ wr (by omega) ?_).mono ?_
      · omega
      rintro e w1 ⟨rfl, rfl⟩
      have r1 := rep_le (256 * H + L)
      have r2 : (0 : Int) ≤ (rep (256 * H + L) : Int) := by omega
      have HC := Lib.hid (show csum l.flatten = 65535 - (rep (256 * H + L) : Int) by unfold csum; rw [HT.out])
      go_wp2
      go_ret
      exact ⟨by rw [HC.out]; rfl, he⟩
def rsRel (l : List UInt8) (n i : Value) : Prop := ∃ (k : Nat) (m : Int), k % 2 = 0 ∧ k ≤ l.length + 1 ∧ (0 ≤ m ∧ m ≤ 65535) ∧ m = (rep (tot (l.take k)) : Int) ∧ n = .int .i64 m ∧ i = .int .i64 (k : Int)
theorem rep_go {t v : Nat} {m : Int} (hv : v ≤ 65535) (hm : m = (rep t : Int)) : (m + (v : Int) ≤ 65535 → ((rep (t + v) : Nat) : Int) = m + (v : Int)) ∧ (65535 < m + (v : Int) → ((rep (t + v) : Nat) : Int) = m + (v : Int) - 65535) := by
  have h := rep_add t v hv
  constructor
  · intro k; rw [if_neg (by omega)] at h; omega
  · intro k; rw [if_pos (by omega)] at h; omega
set_option maxHeartbeats 1600000 in
theorem dgrsum_any (s : ByteArray) (w : World) (hs : s.size ≤ 1000000000) :
    Calls Try.prog 50 #[.string s] w fun e w' => e = .returned (.int .i64 (csum (ls s))) ∧ w = w' := by
  go_enter Try.func50, Try.ntmps50
  go_wp2
  go_loop [3, 4] (fun n i => rsRel (ls s) n i) (fun _ i => s.size + 2 - (intOf i).toNat)
  case atStart => exact ⟨0, 0, rfl, by omega, ⟨by omega, by omega⟩, rfl, rfl, rfl⟩
  case round =>
    obtain ⟨k, m, hk2, hk, ⟨m0, m1⟩, hm, rfl, rfl⟩ := hrel
    rw [← ls_size] at hk
    by_cases hlt : k < s.size
    · have g0 := ls_get s k hlt
      obtain ⟨x, hx⟩ : ∃ x, s[k] = x := ⟨_, rfl⟩
      rw [hx] at g0
      have x0 := u8_bd x
      obtain ⟨X, hX⟩ : ∃ X : Int, (x.toNat : Int) = X := ⟨_, rfl⟩
      rw [hX] at x0
      obtain ⟨x1, x2⟩ := x0
      by_cases hlt2 : k + 1 < s.size
      · have g1 := ls_get s (k + 1) hlt2
        obtain ⟨y, hy⟩ : ∃ y, s[k + 1] = y := ⟨_, rfl⟩
        rw [hy] at g1
        have y0 := u8_bd y
        obtain ⟨Y, hY⟩ : ∃ Y : Int, (y.toNat : Int) = Y := ⟨_, rfl⟩
        rw [hY] at y0
        obtain ⟨y1, y2⟩ := y0
        have hr := rep_two (l := ls s) hk2 (by rw [← ls_size]; exact hlt2)
        rw [← g0, ← g1] at hr
        have hv : ((256 * x.toNat + y.toNat : Nat) : Int) = 256 * X + Y := by omega
        obtain ⟨q1, q2⟩ := rep_go (t := tot ((ls s).take k)) (v := 256 * x.toNat + y.toNat) (by omega) hm
        rw [← hr, hv] at q1 q2
        have Q1 := Lib.hid q1
        have Q2 := Lib.hid q2
        clear q1 q2 hr hm g0 g1 hv
        by_cases hc : 65535 < m + (256 * X + Y)
        · have hc2 : 65535 < m + 256 * X + Y := by omega
          clear hc
          go_wp2
          go_round
          case rel => exact ⟨k + 2, _, by omega, by rw [← ls_size]; omega, ⟨by omega, by omega⟩, by rw [Q2.out (by omega)]; omega, rfl, by go_num⟩
          case measure => simp [intOf]; omega
        · have hc2 : ¬ 65535 < m + 256 * X + Y := by omega
          clear hc
          go_wp2
          go_round
          case rel => exact ⟨k + 2, _, by omega, by rw [← ls_size]; omega, ⟨by omega, by omega⟩, by rw [Q1.out (by omega)]; omega, rfl, by go_num⟩
          case measure => simp [intOf]; omega
      · have hr := rep_one (l := ls s) hk2 (by rw [← ls_size]; exact hlt) (by rw [← ls_size]; exact hlt2)
        rw [← g0] at hr
        have hv : ((256 * x.toNat : Nat) : Int) = 256 * X := by omega
        obtain ⟨q1, q2⟩ := rep_go (t := tot ((ls s).take k)) (v := 256 * x.toNat) (by omega) hm
        rw [← hr, hv] at q1 q2
        have Q1 := Lib.hid q1
        have Q2 := Lib.hid q2
        clear q1 q2 hr hm g0 hv
        by_cases hc : 65535 < m + 256 * X
        · go_wp2
          go_round
          case rel => exact ⟨k + 2, _, by omega, by rw [← ls_size]; omega, ⟨by omega, by omega⟩, by rw [Q2.out (by omega)], rfl, by go_num⟩
          case measure => simp [intOf]; omega
        · go_wp2
          go_round
          case rel => exact ⟨k + 2, _, by omega, by rw [← ls_size]; omega, ⟨by omega, by omega⟩, by rw [Q1.out (by omega)], rfl, by go_num⟩
          case measure => simp [intOf]; omega
    · have HC := Lib.hid (show csum (ls s) = 65535 - m by unfold csum; rw [hm, List.take_of_length_le (by rw [← ls_size]; omega)])
      clear hm
      go_wp2
      go_ret
      exact ⟨by rw [HC.out]; rfl, rfl⟩
end Go.Proofs.Ytpkidopnkofccaa
namespace Go.Proofs.Ytpkidopnkofccaa
open Go.RowKit Gf Dg
set_option maxRecDepth 100000
/-- What a beginning tells, as Go's struct. -/
abbrev hdV (v h l p : Int) : Value := .agg #[.int .i64 v, .int .i64 h, .int .i64 l, .int .i64 p]
def hdR (r : Hd × Int) : Value := .tuple #[hdV r.1.v r.1.h r.1.l r.1.p, .int .i64 r.2]
def HdPost (w0 : World) (r : Hd × Int) (e : Ending) (w' : World) : Prop := e = .returned (hdR r) ∧ Keeps w0 w'
set_option maxHeartbeats 800000 in
theorem dgmay_any (w0 : World) (v h l p least : Int) (w : World) (hk : Keeps w0 w) :
    Calls Try.prog 61 #[hdV v h l p, .int .i64 least] w (HdPost w0 (may ⟨v, h, l, p⟩ least)) := by
  have fin : ∀ (r : Hd × Int) (W : World), may ⟨v, h, l, p⟩ least = r → Keeps w0 W → HdPost w0 (may ⟨v, h, l, p⟩ least) (.returned (hdR r)) W := fun r W e k => by rw [e]; exact ⟨rfl, k⟩
  have HF := Lib.hid fin
  clear fin
  by_cases h1 : h < least
  · have HM := Lib.hid (show may ⟨v, h, l, p⟩ least = (z, 12) by unfold may; rw [if_pos (.inl h1)])
    go_enter Try.func61, Try.ntmps61
    go_wp2
    exact bodyPost_ret (v := .tuple #[hdV 0 0 0 0, .int .i64 12]) (by simp [results, Try.results61, go_sem]) rfl (HF.out (z, 12) _ HM.out ((hk.alloc _).alloc _))
  · by_cases h2 : l < h
    · have HM := Lib.hid (show may ⟨v, h, l, p⟩ least = (z, 12) by unfold may; rw [if_pos (.inr h2)])
      go_enter Try.func61, Try.ntmps61
      go_wp2
      exact bodyPost_ret (v := .tuple #[hdV 0 0 0 0, .int .i64 12]) (by simp [results, Try.results61, go_sem]) rfl (HF.out (z, 12) _ HM.out ((hk.alloc _).alloc _))
    · by_cases h3 : 4080 < l
      · have HM := Lib.hid (show may ⟨v, h, l, p⟩ least = (z, 15) by unfold may; rw [if_neg (by show ¬ (h < least ∨ l < h); omega), if_pos (by show l > 4080; omega)])
        go_enter Try.func61, Try.ntmps61
        go_wp2
        exact bodyPost_ret (v := .tuple #[hdV 0 0 0 0, .int .i64 15]) (by simp [results, Try.results61, go_sem]) rfl (HF.out (z, 15) _ HM.out ((hk.alloc _).alloc _))
      · have HM := Lib.hid (show may ⟨v, h, l, p⟩ least = (⟨v, h, l, p⟩, 0) by unfold may; rw [if_neg (by show ¬ (h < least ∨ l < h); omega), if_neg (by show ¬ l > 4080; omega)])
        go_enter Try.func61, Try.ntmps61
        go_wp2
        exact bodyPost_ret (v := .tuple #[hdV v h l p, .int .i64 0]) (by simp [results, Try.results61, go_sem]) rfl (HF.out (⟨v, h, l, p⟩, 0) _ HM.out ((hk.alloc _).alloc _))
/-- The number of two bytes. -/
theorem dgnumber_any (s : ByteArray) (a b : UInt8) (w : World) (hs : ls s = [a, b]) :
    Calls Try.prog 62 #[.string s] w fun e w' => e = .returned (.int .i64 ((a.toNat : Int) * 256 + (b.toNat : Int))) ∧ Eqv w w' := by
  obtain ⟨hz, h0, h1⟩ : s.size = 2 ∧ s.data[0]? = some a ∧ s.data[1]? = some b := by
    have e : s = st [a, b] := by rw [← hs, st_ls]
    subst e; exact ⟨rfl, rfl, rfl⟩
  have g0 : s[0] = a := by have e : s = st [a, b] := by rw [← hs, st_ls]
                           subst e; rfl
  have g1 : s[1] = b := by have e : s = st [a, b] := by rw [← hs, st_ls]
                           subst e; rfl
  clear h0 h1 hs
  have a0 := u8_bd a
  have b0 := u8_bd b
  have HJ := Lib.hid (i64_join 8 (a := (a.toNat : Int) * 256) (b := (b.toNat : Int)) (by omega) (by omega) (by omega) (by omega) (by omega) (by omega))
  go_enter Try.func62, Try.ntmps62
  go_wp2
  go_quiet (fail)
  go_wp2
  rw [HJ.out]
  go_ret
  exact ⟨rfl, Eqv.drewN _ _⟩
/-- A part of a text. -/
theorem two_part (s : ByteArray) (k : Nat) (h : k + 2 ≤ s.size) : ls (s.extract k (k + 2)) = [cf (ls s) k, cf (ls s) (k + 1)] := by
  rw [ls_part]
  rw [ls_size] at h
  refine list_ext_cf (by rw [List.length_take, List.length_drop]; simp; omega) fun i hi => ?_
  rw [List.length_take, List.length_drop] at hi
  unfold cf
  rw [List.getD_eq_getElem?_getD, List.getElem?_take_of_lt (by omega), List.getElem?_drop]
  have : i = 0 ∨ i = 1 := by omega
  rcases this with rfl | rfl <;> simp
theorem peek_nil {l : List UInt8} (h : l.length = 0) : peek l = (z, 10) := by unfold peek; rw [if_pos h]
theorem peek_kind {l : List UInt8} (h : ¬ l.length = 0) (h4 : ¬ n l 0 / 16 = 4) (h6 : ¬ n l 0 / 16 = 6) : peek l = (z, 14) := by unfold peek; rw [if_neg h, if_neg h4, if_neg h6]
theorem peek_s4 {l : List UInt8} (h : ¬ l.length = 0) (h4 : n l 0 / 16 = 4) (hs : l.length < 20) : peek l = (z, 10) := by unfold peek; rw [if_neg h, if_pos h4, if_pos hs]
theorem peek_s6 {l : List UInt8} (h : ¬ l.length = 0) (h4 : n l 0 / 16 = 6) (hs : l.length < 40) : peek l = (z, 10) := by unfold peek; rw [if_neg h, if_neg (by omega), if_pos h4, if_pos hs]
theorem peek_4 {l : List UInt8} (h : ¬ l.length < 20) (h4 : n l 0 / 16 = 4) : peek l = may (Dg.h4 l) 20 := by unfold peek; rw [if_neg (by omega), if_pos h4, if_neg h]
theorem peek_6 {l : List UInt8} (h : ¬ l.length < 40) (h4 : n l 0 / 16 = 6) : peek l = may (Dg.h6 l) 40 := by unfold peek; rw [if_neg (by omega), if_neg (by omega), if_pos h4, if_neg h]
/-- Block b holds such a struct, which may be written. -/
structure Hd4 (b : Nat) (d : Hd) (w : World) : Prop where
  c0 : w.cell? ⟨b, 0, none⟩ = some (.int .i64 d.v)
  c1 : w.cell? ⟨b, 1, none⟩ = some (.int .i64 d.h)
  c2 : w.cell? ⟨b, 2, none⟩ = some (.int .i64 d.l)
  c3 : w.cell? ⟨b, 3, none⟩ = some (.int .i64 d.p)
  f0 : w.frozen? ⟨b, 0, none⟩ = false
  f1 : w.frozen? ⟨b, 1, none⟩ = false
  f2 : w.frozen? ⟨b, 2, none⟩ = false
  f3 : w.frozen? ⟨b, 3, none⟩ = false
theorem Hd4.made (w : World) (d : Hd) (t : TypeId) : Hd4 w.heap.size d (w.alloc (.cells #[.int .i64 d.v, .int .i64 d.h, .int .i64 d.l, .int .i64 d.p] t)) := by
  constructor
  all_goals first | exact World.frozen?_alloc_new _ _ _ _ | (rw [World.cell?_alloc_new]; rfl)
theorem Hd4.new (w : World) : Hd4 w.heap.size z (w.alloc (.cells #[.int .i64 0, .int .i64 0, .int .i64 0, .int .i64 0] 92)) := Hd4.made w z _
theorem Hd4.eqv {b : Nat} {d : Hd} {w w' : World} (h : Hd4 b d w) (k : Eqv w w') : Hd4 b d w' :=
  ⟨(k.cell _).trans h.c0, (k.cell _).trans h.c1, (k.cell _).trans h.c2, (k.cell _).trans h.c3, (k.frozen _).trans h.f0, (k.frozen _).trans h.f1, (k.frozen _).trans h.f2, (k.frozen _).trans h.f3⟩
theorem there_of {w : World} {p : Addr} {v : Value} (h : w.cell? p = some v) : p.block < w.heap.size := by
  obtain ⟨o, ho, _⟩ := cells_of_cell h
  exact (Array.getElem?_eq_some_iff.1 ho).1
theorem Hd4.keeps {b : Nat} {d : Hd} {w w' : World} (h : Hd4 b d w) (k : Keeps w w') : Hd4 b d w' := by
  have hb : b < w.heap.size := there_of h.c0
  have kc : ∀ i, w'.cell? ⟨b, i, none⟩ = w.cell? ⟨b, i, none⟩ := fun i => Below.cell k (p := ⟨b, i, none⟩) hb
  have kf : ∀ i, w'.frozen? ⟨b, i, none⟩ = w.frozen? ⟨b, i, none⟩ := fun i => Below.frozen k (p := ⟨b, i, none⟩) hb
  exact ⟨(kc 0).trans h.c0, (kc 1).trans h.c1, (kc 2).trans h.c2, (kc 3).trans h.c3, (kf 0).trans h.f0, (kf 1).trans h.f1, (kf 2).trans h.f2, (kf 3).trans h.f3⟩
theorem Hd4.store {b : Nat} {d : Hd} {w : World} (h : Hd4 b d w) (r1 r2 r3 r4 : Int) : Hd4 b ⟨r1, r2, r3, r4⟩ ((((w.setCell ⟨b, 0, none⟩ (.int .i64 r1)).setCell ⟨b, 1, none⟩ (.int .i64 r2)).setCell ⟨b, 2, none⟩ (.int .i64 r3)).setCell ⟨b, 3, none⟩ (.int .i64 r4)) := by
  obtain ⟨q1, q2, q3, q4, f1, f2, f3, f4⟩ := h
  refine ⟨?_, ?_, ?_, ?_, by simp [f1], by simp [f2], by simp [f3], by simp [f4]⟩
  · rw [set_other (by decide), set_other (by decide), set_other (by decide)]; exact set_same q1
  · rw [set_other (by decide), set_other (by decide)]; exact set_same ((set_other (by decide)).trans q2)
  · rw [set_other (by decide)]; exact set_same ((set_other (by decide)).trans ((set_other (by decide)).trans q3))
  · exact set_same ((set_other (by decide)).trans ((set_other (by decide)).trans ((set_other (by decide)).trans q4)))
theorem Keeps.store {w0 w : World} {b : Nat} (h : Keeps w0 w) (r1 r2 r3 r4 : Int) (hb : w0.heap.size ≤ b) : Keeps w0 ((((w.setCell ⟨b, 0, none⟩ (.int .i64 r1)).setCell ⟨b, 1, none⟩ (.int .i64 r2)).setCell ⟨b, 2, none⟩ (.int .i64 r3)).setCell ⟨b, 3, none⟩ (.int .i64 r4)) :=
  ((((Only.setCell w ⟨b, 0, none⟩ _).trans (Only.setCell _ ⟨b, 1, none⟩ _)).trans (Only.setCell _ ⟨b, 2, none⟩ _)).trans (Only.setCell _ ⟨b, 3, none⟩ _)).keeps h hb
def PkPost (w0 : World) (l : List UInt8) : Ending → World → Prop := HdPost w0 (peek l)
theorem PkPost.of {w0 : World} {l : List UInt8} {r : Hd × Int} {W : World} (e : peek l = r) (k : Keeps w0 W) : PkPost w0 l (.returned (hdR r)) W := by unfold PkPost; rw [e]; exact ⟨rfl, k⟩
set_option maxHeartbeats 1600000 in
theorem dgpeek_any (w0 : World) (s : ByteArray) (w : World) (hs : s.size ≤ 1000000000) (hk : Keeps w0 w) :
    Calls Try.prog 46 #[.string s] w (PkPost w0 (ls s)) := by
  have hsz := ls_size s
  by_cases h0 : s.size = 0
  · have HM := Lib.hid (peek_nil (l := ls s) (by omega))
    have hE : s.toList = [] := by rw [ls_toList]; exact List.length_eq_zero_iff.1 (by omega)
    have hE2 : s.toList.isEmpty = true := by rw [hE]; rfl
    clear hsz hE
    go_enter Try.func46, Try.ntmps46
    go_wp2
    exact bodyPost_ret (v := .tuple #[hdV 0 0 0 0, .int .i64 10]) (by simp [results, Try.results46, go_sem]) rfl (PkPost.of HM.out (hk.alloc _))
  · have hE2 : s.toList.isEmpty = false := by
      rw [ls_toList]
      cases hq : ls s with
      | nil => rw [hq] at hsz; exact absurd hsz h0
      | cons _ _ => rfl
    have hpos : 0 < s.size := Nat.pos_of_ne_zero h0
    have g0 := ls_get s 0 hpos
    obtain ⟨c0, hc0⟩ : ∃ c, cf (ls s) 0 = c := ⟨_, rfl⟩
    have hn0 : n (ls s) 0 = (c0.toNat : Int) := by unfold n; rw [hc0]
    rw [hc0] at g0
    have b0 := u8_bd c0
    have HN0 := Lib.hid hn0
    have HSZ := Lib.hid hsz
    clear hc0 hn0 hsz
    by_cases h4 : (c0.toNat : Int) / 16 = 4
    · by_cases h20 : s.size < 20
      · have HM := Lib.hid (peek_s4 (l := ls s) (by rw [← HSZ.out]; exact h0) (by rw [HN0.out]; exact h4) (by rw [← HSZ.out]; exact h20))
        go_enter Try.func46, Try.ntmps46
        go_wp2
        exact bodyPost_ret (v := .tuple #[hdV 0 0 0 0, .int .i64 10]) (by simp [results, Try.results46, go_sem]) rfl (PkPost.of HM.out (hk.alloc _))
      · have HM := Lib.hid (peek_4 (l := ls s) (by rw [← HSZ.out]; exact h20) (by rw [HN0.out]; exact h4))
        obtain ⟨c2, hc2⟩ : ∃ c, cf (ls s) 2 = c := ⟨_, rfl⟩
        obtain ⟨c3, hc3⟩ : ∃ c, cf (ls s) 3 = c := ⟨_, rfl⟩
        obtain ⟨c9, hc9⟩ : ∃ c, cf (ls s) 9 = c := ⟨_, rfl⟩
        have h9 : 9 < s.size := by omega
        have g9 := ls_get s 9 h9
        rw [hc9] at g9
        have HP := Lib.hid (show ls (s.extract 2 4) = [c2, c3] by rw [two_part s 2 (by omega), hc2, hc3])
        have hM := u8_mask 4 c0 (m := 15) rfl (by omega)
        obtain ⟨M, hMM⟩ : ∃ M : Int, ((c0.toNat % 2 ^ 4 : Nat) : Int) = M := ⟨_, rfl⟩
        rw [hMM] at hM
        have hM0 : 0 ≤ M := by omega
        have hM1 : M ≤ 15 := by omega
        have HD := Lib.hid (show Dg.h4 (ls s) = ⟨4, M * 4, (c2.toNat : Int) * 256 + (c3.toNat : Int), (c9.toNat : Int)⟩ by
          unfold Dg.h4
          rw [HN0.out]
          unfold n
          rw [hc2, hc3, hc9, ← hMM]
          have : (c0.toNat : Int) % 16 = ((c0.toNat % 2 ^ 4 : Nat) : Int) := by omega
          rw [this])
        have b9 := u8_bd c9
        clear hc2 hc3 hc9 hMM
        obtain ⟨L, hL⟩ : ∃ L : Int, (c2.toNat : Int) * 256 + (c3.toNat : Int) = L := ⟨_, rfl⟩
        obtain ⟨P9, hP9⟩ : ∃ P9 : Int, (c9.toNat : Int) = P9 := ⟨_, rfl⟩
        rw [hL, hP9] at HD
        have HNU := Lib.hid (show ∀ W : World, Calls Try.prog 62 #[.string (s.extract 2 4)] W fun e w' => e = .returned (.int .i64 L) ∧ Eqv W w' by
          intro W; rw [← hL]; exact dgnumber_any _ c2 c3 W HP.out)
        rw [hP9] at b9
        clear hL
        go_enter Try.func46, Try.ntmps46
        go_wp2
        obtain ⟨⟨⟨r1, r2, r3, r4⟩, r5⟩, hr⟩ : ∃ r, may ⟨4, M * 4, L, P9⟩ 20 = r := ⟨_, rfl⟩
        have HMY := Lib.hid (show ∀ W : World, Calls Try.prog 61 #[hdV 4 (M * 4) L P9, .int .i64 20] W fun e w' => e = .returned (.tuple #[hdV r1 r2 r3 r4, .int .i64 r5]) ∧ Keeps W w' by
          intro W
          have := dgmay_any W 4 (M * 4) L P9 20 W (Keeps.refl _)
          rw [hr] at this
          exact this)
        have HR := Lib.hid (show peek (ls s) = (⟨r1, r2, r3, r4⟩, r5) by rw [HM.out, HD.out, hr])
        clear hr
        obtain ⟨b, hb⟩ : ∃ b, w.heap.size = b := ⟨_, rfl⟩
        have hB := Hd4.new w
        have hkA := hk.alloc (.cells #[.int .i64 0, .int .i64 0, .int .i64 0, .int .i64 0] 92)
        have HB0 := Lib.hid (show w0.heap.size ≤ b by rw [← hb]; exact Below.size hk)
        obtain ⟨wA, hwA⟩ : ∃ wA, w.alloc (.cells #[.int .i64 0, .int .i64 0, .int .i64 0, .int .i64 0] 92) = wA := ⟨_, rfl⟩
        rw [hwA] at hB hkA
        rw [hb] at hB
        have HWA := Lib.hid (show Keeps w0 wA ∧ Hd4 b z wA from ⟨hkA, hB⟩)
        rw [hwA, hb]
        clear hwA hB hkA hb hk
        have i9 : (9 : Int) < (s.size : Int) := by omega
        have i4 : (4 : Int) ≤ (s.size : Int) := by omega
        have w1 := wrapI (a := M) (by omega) (by omega)
        have w2 := wrapI (a := M * 4) (by omega) (by omega)
        have w3 := wrapI (a := P9) (by omega) (by omega)
        refine wp_draw (by kernel_rfl)
          [.string s, .int .u8 (c0.toNat : Int), .int .u8 M, .int .i64 M, .int .i64 (M * 4), .string s, .string (s.extract 2 4), .int .i64 L, .string s, .int .u8 P9, .int .i64 P9, hdV 4 (M * 4) L P9,
            .tuple #[hdV r1 r2 r3 r4, .int .i64 r5], hdV r1 r2 r3 r4, .int .i64 r5, undef, .int .i64 r5]
          (Once 15 (fun W => Keeps w0 W ∧ Hd4 b z W) (fun W => Keeps w0 W ∧ Hd4 b ⟨r1, r2, r3, r4⟩ W))
          rfl (by kernel_rfl) (fin := ?fin) ?hfin (Once.start ⟨HWA.out.1.eqv (Eqv.drew wA), HWA.out.2.eqv (Eqv.drew wA)⟩) ?each ?hend
        case hfin => simp [seqA, dstOf, Act.put]; rfl
        case each =>
          refine ⟨?_, ?_, ?_, ?_, ?_, ?_, ?_, ?_, ?_, ?_, ?_, ?_, ?_, ?_, ?_, ?_, ?_, trivial⟩
          all_goals intro L5 w5 h0 hd hs hw
          all_goals try simp only [Nat.zero_add, Nat.reduceAdd] at h0
          all_goals unfold Does
          rotate_left 15
          · obtain ⟨hkk, q1, q2, q3, q4, f1, f2, f3, f4⟩ := hw.1 h0
            have hst := (hw.1 h0).2.store r1 r2 r3 r4
            have hks := hkk.store r1 r2 r3 r4 HB0.out
            go_simp
            exact fun L' k => Once.done k ⟨hks, hst⟩
          rotate_left 8
          · go_simp
            refine (HNU.out w5).mono ?_
            rintro e w6 ⟨rfl, he6⟩
            exact ⟨_, rfl, rfl, fun L' k => hw.keep (by decide) k (fun h => ⟨h.1.eqv he6, h.2.eqv he6⟩) (fun h => ⟨h.1.eqv he6, h.2.eqv he6⟩)⟩
          rotate_left 4
          · go_simp
            refine (HMY.out w5).mono ?_
            rintro e w6 ⟨rfl, he6⟩
            exact ⟨_, rfl, rfl, fun L' k => hw.keep (by decide) k (fun h => ⟨h.1.trans he6, h.2.keeps he6⟩) (fun h => ⟨h.1.trans he6, h.2.keeps he6⟩)⟩
          all_goals go_simp
          all_goals exact fun L' k => hw.same (by decide) k
        case hend =>
          intro L5 w5 hL5 hw
          obtain ⟨hk5, q1, q2, q3, q4, f1, f2, f3, f4⟩ := hw.2 (hL5 15 (by simp))
          have HK5 := Lib.hid hk5
          clear hL5 w1 w2 w3 i9 hw hk5
          go_wp2
          exact bodyPost_ret (v := .tuple #[hdV r1 r2 r3 r4, .int .i64 r5]) (by simp [results, Try.results46, go_sem, q1, q2, q3, q4]) rfl (PkPost.of HR.out HK5.out)
    · by_cases h6 : (c0.toNat : Int) / 16 = 6
      · by_cases h40 : s.size < 40
        · have HM := Lib.hid (peek_s6 (l := ls s) (by rw [← HSZ.out]; exact h0) (by rw [HN0.out]; exact h6) (by rw [← HSZ.out]; exact h40))
          go_enter Try.func46, Try.ntmps46
          go_wp2
          exact bodyPost_ret (v := .tuple #[hdV 0 0 0 0, .int .i64 10]) (by simp [results, Try.results46, go_sem]) rfl (PkPost.of HM.out (hk.alloc _))
        · have HM := Lib.hid (peek_6 (l := ls s) (by rw [← HSZ.out]; exact h40) (by rw [HN0.out]; exact h6))
          obtain ⟨c4, hc4⟩ : ∃ c, cf (ls s) 4 = c := ⟨_, rfl⟩
          obtain ⟨c5, hc5⟩ : ∃ c, cf (ls s) 5 = c := ⟨_, rfl⟩
          obtain ⟨c6, hc6⟩ : ∃ c, cf (ls s) 6 = c := ⟨_, rfl⟩
          have h9 : 6 < s.size := by omega
          have g9 := ls_get s 6 h9
          rw [hc6] at g9
          have HP := Lib.hid (show ls (s.extract 4 6) = [c4, c5] by rw [two_part s 4 (by omega), hc4, hc5])
          have b4 := u8_bd c4
          have b5 := u8_bd c5
          have HD := Lib.hid (show Dg.h6 (ls s) = ⟨6, 40, 40 + ((c4.toNat : Int) * 256 + (c5.toNat : Int)), (c6.toNat : Int)⟩ by
            unfold Dg.h6
            unfold n
            rw [hc4, hc5, hc6])
          have b9 := u8_bd c6
          clear hc4 hc5 hc6
          obtain ⟨L, hL⟩ : ∃ L : Int, (c4.toNat : Int) * 256 + (c5.toNat : Int) = L := ⟨_, rfl⟩
          have hL0 : 0 ≤ L ∧ L ≤ 65535 := by omega
          obtain ⟨P9, hP9⟩ : ∃ P9 : Int, (c6.toNat : Int) = P9 := ⟨_, rfl⟩
          rw [hL, hP9] at HD
          have HNU := Lib.hid (show ∀ W : World, Calls Try.prog 62 #[.string (s.extract 4 6)] W fun e w' => e = .returned (.int .i64 L) ∧ Eqv W w' by
            intro W; rw [← hL]; exact dgnumber_any _ c4 c5 W HP.out)
          rw [hP9] at b9
          clear hL b4 b5
          go_enter Try.func46, Try.ntmps46
          go_wp2
          obtain ⟨⟨⟨r1, r2, r3, r4⟩, r5⟩, hr⟩ : ∃ r, may ⟨6, 40, 40 + L, P9⟩ 40 = r := ⟨_, rfl⟩
          have HMY := Lib.hid (show ∀ W : World, Calls Try.prog 61 #[hdV 6 40 (40 + L) P9, .int .i64 40] W fun e w' => e = .returned (.tuple #[hdV r1 r2 r3 r4, .int .i64 r5]) ∧ Keeps W w' by
            intro W
            have := dgmay_any W 6 40 (40 + L) P9 40 W (Keeps.refl _)
            rw [hr] at this
            exact this)
          have HR := Lib.hid (show peek (ls s) = (⟨r1, r2, r3, r4⟩, r5) by rw [HM.out, HD.out, hr])
          clear hr
          obtain ⟨b, hb⟩ : ∃ b, w.heap.size = b := ⟨_, rfl⟩
          have hB := Hd4.new w
          have hkA := hk.alloc (.cells #[.int .i64 0, .int .i64 0, .int .i64 0, .int .i64 0] 92)
          have HB0 := Lib.hid (show w0.heap.size ≤ b by rw [← hb]; exact Below.size hk)
          obtain ⟨wA, hwA⟩ : ∃ wA, w.alloc (.cells #[.int .i64 0, .int .i64 0, .int .i64 0, .int .i64 0] 92) = wA := ⟨_, rfl⟩
          rw [hwA] at hB hkA
          rw [hb] at hB
          have HWA := Lib.hid (show Keeps w0 wA ∧ Hd4 b z wA from ⟨hkA, hB⟩)
          rw [hwA, hb]
          clear hwA hB hkA hb hk
          have i9 : (6 : Int) < (s.size : Int) := by omega
          have i4 : (6 : Int) ≤ (s.size : Int) := by omega
          have w2 := wrapI (a := 40 + L) (by omega) (by omega)
          have w3 := wrapI (a := P9) (by omega) (by omega)
          refine wp_draw (by kernel_rfl)
            [.string s, .string (s.extract 4 6), .int .i64 L, .int .i64 (40 + L), .string s, .int .u8 P9, .int .i64 P9, hdV 6 40 (40 + L) P9,
              .tuple #[hdV r1 r2 r3 r4, .int .i64 r5], hdV r1 r2 r3 r4, .int .i64 r5, undef, .int .i64 r5]
            (Once 11 (fun W => Keeps w0 W ∧ Hd4 b z W) (fun W => Keeps w0 W ∧ Hd4 b ⟨r1, r2, r3, r4⟩ W))
            rfl (by kernel_rfl) (fin := ?fin2) ?hfin2 (Once.start ⟨HWA.out.1.eqv (Eqv.drew wA), HWA.out.2.eqv (Eqv.drew wA)⟩) ?each2 ?hend2
          case hfin2 => simp [seqA, dstOf, Act.put]; rfl
          case each2 =>
            refine ⟨?_, ?_, ?_, ?_, ?_, ?_, ?_, ?_, ?_, ?_, ?_, ?_, ?_, trivial⟩
            all_goals intro L5 w5 h0 hd hs hw
            all_goals try simp only [Nat.zero_add, Nat.reduceAdd] at h0
            all_goals unfold Does
            rotate_left 11
            · obtain ⟨hkk, q1, q2, q3, q4, f1, f2, f3, f4⟩ := hw.1 h0
              have hst := (hw.1 h0).2.store r1 r2 r3 r4
              have hks := hkk.store r1 r2 r3 r4 HB0.out
              go_simp
              exact fun L' k => Once.done k ⟨hks, hst⟩
            rotate_left 3
            · go_simp
              refine (HNU.out w5).mono ?_
              rintro e w6 ⟨rfl, he6⟩
              exact ⟨_, rfl, rfl, fun L' k => hw.keep (by decide) k (fun h => ⟨h.1.eqv he6, h.2.eqv he6⟩) (fun h => ⟨h.1.eqv he6, h.2.eqv he6⟩)⟩
            rotate_left 5
            · go_simp
              refine (HMY.out w5).mono ?_
              rintro e w6 ⟨rfl, he6⟩
              exact ⟨_, rfl, rfl, fun L' k => hw.keep (by decide) k (fun h => ⟨h.1.trans he6, h.2.keeps he6⟩) (fun h => ⟨h.1.trans he6, h.2.keeps he6⟩)⟩
            all_goals go_simp
            all_goals exact fun L' k => hw.same (by decide) k
          case hend2 =>
            intro L5 w5 hL5 hw
            obtain ⟨hk5, q1, q2, q3, q4, f1, f2, f3, f4⟩ := hw.2 (hL5 11 (by simp))
            have HK5 := Lib.hid hk5
            clear hL5 w2 w3 i9 hw hk5
            go_wp2
            exact bodyPost_ret (v := .tuple #[hdV r1 r2 r3 r4, .int .i64 r5]) (by simp [results, Try.results46, go_sem, q1, q2, q3, q4]) rfl (PkPost.of HR.out HK5.out)
      · have HM := Lib.hid (peek_kind (l := ls s) (by rw [← HSZ.out]; exact h0) (by rw [HN0.out]; exact h4) (by rw [HN0.out]; exact h6))
        go_enter Try.func46, Try.ntmps46
        go_wp2
        exact bodyPost_ret (v := .tuple #[hdV 0 0 0 0, .int .i64 14]) (by simp [results, Try.results46, go_sem]) rfl (PkPost.of HM.out (hk.alloc _))
end Go.Proofs.Ytpkidopnkofccaa
namespace Go.Proofs.Ytpkidopnkofccaa
open Go.RowKit Gf Dg
set_option maxRecDepth 100000
/-- Two such structs, behind each other: what is answered, and what is built. -/
structure Peeking (w0 : World) (b : Nat) (d : Hd) (w : World) : Prop where
  kp : Keeps w0 w
  base : w0.heap.size ≤ b
  ans : Hd4 b z w
  own : Hd4 (b + 1) d w
theorem Peeking.eqv {w0 w w' : World} {b : Nat} {d : Hd} (h : Peeking w0 b d w) (k : Eqv w w') : Peeking w0 b d w' := ⟨h.kp.eqv k, h.base, h.ans.eqv k, h.own.eqv k⟩
theorem Hd4.only {b c : Nat} {d : Hd} {w w' : World} (h : Hd4 b d w) (hn : b ≠ c) (k : Only c w w') : Hd4 b d w' := by
  have hb : b < w.heap.size := there_of h.c0
  have kc : ∀ i, w'.cell? ⟨b, i, none⟩ = w.cell? ⟨b, i, none⟩ := fun i => k.cell (p := ⟨b, i, none⟩) hb hn
  have kf : ∀ i, w'.frozen? ⟨b, i, none⟩ = w.frozen? ⟨b, i, none⟩ := fun i => k.frozen (p := ⟨b, i, none⟩) hb hn
  exact ⟨(kc 0).trans h.c0, (kc 1).trans h.c1, (kc 2).trans h.c2, (kc 3).trans h.c3, (kf 0).trans h.f0, (kf 1).trans h.f1, (kf 2).trans h.f2, (kf 3).trans h.f3⟩
theorem Peeking.start {w0 w wA : World} {b : Nat} (hk : Keeps w0 w) (c : Nat) {t : TypeId} (hb : w.heap.size = b) (hA : (w.alloc (.cells #[.int .i64 0, .int .i64 0, .int .i64 0, .int .i64 0] t)).alloc (.cells #[.int .i64 6, .int .i64 40, .int .i64 0, .int .i64 (c : Int)] t) = wA) :
    Peeking w0 b ⟨6, 40, 0, c⟩ wA := by
  subst hb
  subst hA
  refine ⟨(hk.alloc _).alloc _, Below.size hk, (Hd4.made w z t).keeps ((Keeps.refl _).alloc _), ?_⟩
  have := Hd4.made (w.alloc (.cells #[.int .i64 0, .int .i64 0, .int .i64 0, .int .i64 0] t)) ⟨6, 40, 0, c⟩ t
  rw [World.size_alloc] at this
  exact this
theorem Peeking.setL {w0 w : World} {b : Nat} {v h l p : Int} (k : Peeking w0 b ⟨v, h, l, p⟩ w) (x : Int) : Peeking w0 b ⟨v, h, x, p⟩ (w.setCell ⟨b + 1, 2, none⟩ (.int .i64 x)) := by
  obtain ⟨q1, q2, q3, q4, f1, f2, f3, f4⟩ := k.own
  refine ⟨(Only.setCell w ⟨b + 1, 2, none⟩ _).keeps k.kp (by have := k.base; show _ ≤ b + 1; omega), k.base, k.ans.only (by show b ≠ b + 1; omega) (Only.setCell w ⟨b + 1, 2, none⟩ _), ?_⟩
  exact ⟨(set_other (by decide)).trans q1, (set_other (by decide)).trans q2, set_same q3, (set_other (by decide)).trans q4, by simp [f1], by simp [f2], by simp [f3], by simp [f4]⟩
theorem Peeking.put {w0 w : World} {b : Nat} {d : Hd} (k : Peeking w0 b d w) (r1 r2 r3 r4 : Int) : Peeking w0 b ⟨r1, r2, r3, r4⟩ ((((w.setCell ⟨b + 1, 0, none⟩ (.int .i64 r1)).setCell ⟨b + 1, 1, none⟩ (.int .i64 r2)).setCell ⟨b + 1, 2, none⟩ (.int .i64 r3)).setCell ⟨b + 1, 3, none⟩ (.int .i64 r4)) := by
  have ho : Only (b + 1) w _ := (((Only.setCell w ⟨b + 1, 0, none⟩ (.int .i64 r1)).trans (Only.setCell _ ⟨b + 1, 1, none⟩ (.int .i64 r2))).trans (Only.setCell _ ⟨b + 1, 2, none⟩ (.int .i64 r3))).trans (Only.setCell _ ⟨b + 1, 3, none⟩ (.int .i64 r4))
  exact ⟨ho.keeps k.kp (by have := k.base; omega), k.base, k.ans.only (by omega) ho, k.own.store r1 r2 r3 r4⟩
theorem rpk_ret {w0 W : World} {a : Act} {l : List UInt8} {b : Nat} {r1 r2 r3 r4 r5 : Int} (hB : Hd4 b ⟨r1, r2, r3, r4⟩ W) (hk : Keeps w0 W) (hr : peek l = (⟨r1, r2, r3, r4⟩, r5))
    (h2 : a.tmps.getD 2 undef = .pointer (some ⟨b, 0, none⟩)) (h3 : a.tmps.getD 3 undef = .int .i64 r5) (hd : a.defers = []) : bodyPost Try.prog Try.f51 (PkPost w0 l) Exit.ret a W := by
  obtain ⟨q1, q2, q3, q4, _⟩ := hB
  have h2' : a.tmps[2]?.getD undef = .pointer (some ⟨b, 0, none⟩) := by rw [← h2, Array.getD_eq_getD_getElem?]
  have h3' : a.tmps[3]?.getD undef = .int .i64 r5 := by rw [← h3, Array.getD_eq_getD_getElem?]
  exact bodyPost_ret (v := .tuple #[hdV r1 r2 r3 r4, .int .i64 r5]) (by simp [results, Try.results51, go_sem, q1, q2, q3, q4, h2', h3']) hd (PkPost.of hr hk)
theorem Peeking.ends {w0 w W : World} {a : Act} {l : List UInt8} {b : Nat} {d : Hd} {r1 r2 r3 r4 r5 : Int} (k : Peeking w0 b d w) (hr : peek l = (⟨r1, r2, r3, r4⟩, r5))
    (hW : (((w.setCell ⟨b, 0, none⟩ (.int .i64 r1)).setCell ⟨b, 1, none⟩ (.int .i64 r2)).setCell ⟨b, 2, none⟩ (.int .i64 r3)).setCell ⟨b, 3, none⟩ (.int .i64 r4) = W)
    (h2 : a.tmps.getD 2 undef = .pointer (some ⟨b, 0, none⟩)) (h3 : a.tmps.getD 3 undef = .int .i64 r5) (hd : a.defers = []) : bodyPost Try.prog Try.f51 (PkPost w0 l) Exit.ret a W := by
  subst hW
  exact rpk_ret (k.ans.store r1 r2 r3 r4) (k.kp.store r1 r2 r3 r4 k.base) hr h2 h3 hd
set_option maxHeartbeats 1600000 in
theorem dgrpeek_any (w0 : World) (s : ByteArray) (w : World) (hs : s.size ≤ 1000000000) (hk : Keeps w0 w) :
    Calls Try.prog 51 #[.string s] w (PkPost w0 (ls s)) := by
  have hsz := ls_size s
  by_cases h0 : s.size = 0
  · have HM := Lib.hid (peek_nil (l := ls s) (by omega))
    clear hsz
    go_enter Try.func51, Try.ntmps51
    go_wp2
    exact bodyPost_ret (v := .tuple #[hdV 0 0 0 0, .int .i64 10]) (by simp [results, Try.results51, go_sem]) rfl (PkPost.of HM.out (hk.alloc _))
  · have hpos : 0 < s.size := Nat.pos_of_ne_zero h0
    have g0 := ls_get s 0 hpos
    obtain ⟨c0, hc0⟩ : ∃ c, cf (ls s) 0 = c := ⟨_, rfl⟩
    have hn0 : n (ls s) 0 = (c0.toNat : Int) := by unfold n; rw [hc0]
    rw [hc0] at g0
    have b0 := u8_bd c0
    have HN0 := Lib.hid hn0
    have HSZ := Lib.hid hsz
    clear hc0 hn0 hsz
    by_cases h4 : (c0.toNat : Int) / 16 = 4
    · by_cases h20 : s.size < 20
      · have HM := Lib.hid (peek_s4 (l := ls s) (by rw [← HSZ.out]; exact h0) (by rw [HN0.out]; exact h4) (by rw [← HSZ.out]; exact h20))
        go_enter Try.func51, Try.ntmps51
        go_wp2
        exact bodyPost_ret (v := .tuple #[hdV 0 0 0 0, .int .i64 10]) (by simp [results, Try.results51, go_sem]) rfl (PkPost.of HM.out (hk.alloc _))
      · have HM := Lib.hid (peek_4 (l := ls s) (by rw [← HSZ.out]; exact h20) (by rw [HN0.out]; exact h4))
        have hx6 : 6 < s.size := by omega
        have hx4 : 4 < s.size := by omega
        have hx5 : 5 < s.size := by omega
        have hx2 : 2 < s.size := by omega
        have hx3 : 3 < s.size := by omega
        have hx9 : 9 < s.size := by omega
        have g6 := ls_get s 6 hx6
        have g4 := ls_get s 4 hx4
        have g5 := ls_get s 5 hx5
        have g2 := ls_get s 2 hx2
        have g3 := ls_get s 3 hx3
        have g9 := ls_get s 9 hx9
        obtain ⟨c2, hc2⟩ : ∃ c, cf (ls s) 2 = c := ⟨_, rfl⟩
        obtain ⟨c3, hc3⟩ : ∃ c, cf (ls s) 3 = c := ⟨_, rfl⟩
        obtain ⟨c9, hc9⟩ : ∃ c, cf (ls s) 9 = c := ⟨_, rfl⟩
        obtain ⟨c4, hc4⟩ : ∃ c, cf (ls s) 4 = c := ⟨_, rfl⟩
        obtain ⟨c5, hc5⟩ : ∃ c, cf (ls s) 5 = c := ⟨_, rfl⟩
        obtain ⟨c6, hc6⟩ : ∃ c, cf (ls s) 6 = c := ⟨_, rfl⟩
        rw [hc2] at g2
        rw [hc3] at g3
        rw [hc9] at g9
        rw [hc4] at g4
        rw [hc5] at g5
        rw [hc6] at g6
        have b2 := u8_bd c2
        have b3 := u8_bd c3
        have b4 := u8_bd c4
        have b5 := u8_bd c5
        have b6 := u8_bd c6
        have b9 := u8_bd c9
        have HD := Lib.hid (show Dg.h4 (ls s) = ⟨4, 4 * ((c0.toNat : Int) % 16), 256 * (c2.toNat : Int) + (c3.toNat : Int), (c9.toNat : Int)⟩ by
          unfold Dg.h4
          rw [HN0.out]
          unfold n
          rw [hc2, hc3, hc9, Int.mul_comm 4, Int.mul_comm 256])
        clear hc2 hc3 hc9 hc4 hc5 hc6
        obtain ⟨M, hMM⟩ : ∃ M : Int, (c0.toNat : Int) % 16 = M := ⟨_, rfl⟩
        have hM0 : 0 ≤ M := by omega
        have hM1 : M ≤ 15 := by omega
        have hmod : (c0.toNat : Int).tmod 16 = M := by rw [← hMM]; exact Int.tmod_eq_emod_of_nonneg b0.1
        rw [hMM] at HD
        have HMM := Lib.hid hMM
        have HMD := Lib.hid hmod
        clear hMM hmod
        have i9 : (9 : Int) < (s.size : Int) := by omega
        have i6 : (6 : Int) < (s.size : Int) := by omega
        have i5 : (5 : Int) < (s.size : Int) := by omega
        have i4 : (4 : Int) < (s.size : Int) := by omega
        have i3 : (3 : Int) < (s.size : Int) := by omega
        have i2 : (2 : Int) < (s.size : Int) := by omega
        go_enter Try.func51, Try.ntmps51
        go_wp2
        obtain ⟨b, hb⟩ : ∃ b, w.heap.size = b := ⟨_, rfl⟩
        obtain ⟨wA, hwA⟩ : ∃ wA, (w.alloc (.cells #[.int .i64 0, .int .i64 0, .int .i64 0, .int .i64 0] 98)).alloc (.cells #[.int .i64 6, .int .i64 40, .int .i64 0, .int .i64 (c6.toNat : Int)] 98) = wA := ⟨_, rfl⟩
        have hP := Peeking.start (w0 := w0) hk c6.toNat hb hwA
        rw [hwA, hb]
        clear hwA hb hk
        have wr1 : ∀ x : UInt8, IntKind.i64.wrap (x.toNat : Int) = (x.toNat : Int) := fun x => wrapI (by have := u8_bd x; omega) (by have := u8_bd x; omega)
        have wr2 : ∀ x : UInt8, IntKind.i64.wrap (256 * (x.toNat : Int)) = 256 * (x.toNat : Int) := fun x => wrapI (by have := u8_bd x; omega) (by have := u8_bd x; omega)
        have wr3 : ∀ x : UInt8, IntKind.i64.wrap (40 + 256 * (x.toNat : Int)) = 40 + 256 * (x.toNat : Int) := fun x => wrapI (by have := u8_bd x; omega) (by have := u8_bd x; omega)
        have wr4 : ∀ x y : UInt8, IntKind.i64.wrap (40 + 256 * (x.toNat : Int) + (y.toNat : Int)) = 40 + 256 * (x.toNat : Int) + (y.toNat : Int) := fun x y => wrapI (by have := u8_bd x; have := u8_bd y; omega) (by have := u8_bd x; have := u8_bd y; omega)
        go_still_tail 10, (by kernel_rfl)
        change wpList _ _ _ _ _ wA.drew
        have hP2 := hP.eqv (Eqv.drew wA)
        generalize wA.drew = wB at *
        clear hP wr2 wr3 wr4
        obtain ⟨_, _, ⟨x0, x1, x2, x3, y0, y1, y2, y3⟩, ⟨u0, u1, u2, u3, v0, v1, v2, v3⟩⟩ := id hP2
        have HP2 := Lib.hid (hP2.setL (40 + 256 * (c4.toNat : Int) + (c5.toNat : Int)))
        clear hP2
        go_wp2
        have hP2 := HP2.out
        obtain ⟨wC, hwC⟩ : ∃ wC, wB.setCell ⟨b + 1, 2, none⟩ (.int .i64 (40 + 256 * (c4.toNat : Int) + (c5.toNat : Int))) = wC := ⟨_, rfl⟩
        rw [hwC] at hP2
        rw [hwC]
        clear hwC HP2 x0 x1 x2 x3 y0 y1 y2 y3 u0 u1 u2 u3 v0 v1 v2 v3
        have hmod := HMD.out
        have wr2 := wrapI (a := M) (by omega) (by omega)
        have wr3 := wrapI (a := 4 * M) (by omega) (by omega)
        have wr4 := wrapI (a := 256 * (c2.toNat : Int)) (by omega) (by omega)
        have wr5 := wrapI (a := 256 * (c2.toNat : Int) + (c3.toNat : Int)) (by omega) (by omega)
        go_still_tail 17, (by kernel_rfl)
        change wpList _ _ _ _ _ wC.drew
        have hP3 := hP2.eqv (Eqv.drew wC)
        generalize wC.drew = wD at *
        obtain ⟨L, hL⟩ : ∃ L : Int, 256 * (c2.toNat : Int) + (c3.toNat : Int) = L := ⟨_, rfl⟩
        have hP4 := hP3.put 4 (4 * M) L (c9.toNat : Int)
        have HD2 := HD.out
        rw [hL] at HD2 ⊢
        have HPK := Lib.hid (HM.out.trans (congrArg (fun d => may d 20) HD2))
        obtain ⟨_, _, ⟨x0, x1, x2, x3, y0, y1, y2, y3⟩, ⟨u0, u1, u2, u3, v0, v1, v2, v3⟩⟩ := id hP3
        have HP4 := Lib.hid hP4
        have hL0 : 0 ≤ L := by omega
        clear hP2 hP3 hP4 wr1 wr2 wr3 wr4 wr5 hmod HD2 hL
        by_cases e1 : 4 * M < 20
        · have HR := Lib.hid (show peek (ls s) = (z, 12) by rw [HPK.out]; unfold may; rw [if_pos (.inl e1)])
          go_wp2
          exact HP4.out.ends HR.out rfl rfl rfl rfl
        · by_cases e2 : L < 4 * M
          · have HR := Lib.hid (show peek (ls s) = (z, 12) by rw [HPK.out]; unfold may; rw [if_pos (.inr e2)])
            go_wp2
            exact HP4.out.ends HR.out rfl rfl rfl rfl
          · by_cases e3 : 4080 < L
            · have HR := Lib.hid (show peek (ls s) = (z, 15) by rw [HPK.out]; unfold may; rw [if_neg (by show ¬ (4 * M < 20 ∨ L < 4 * M); omega), if_pos (by show L > 4080; omega)])
              go_wp2
              exact HP4.out.ends HR.out rfl rfl rfl rfl
            · have HR := Lib.hid (show peek (ls s) = (⟨4, 4 * M, L, (c9.toNat : Int)⟩, 0) by rw [HPK.out]; unfold may; rw [if_neg (by show ¬ (4 * M < 20 ∨ L < 4 * M); omega), if_neg (by show ¬ L > 4080; omega)])
              go_wp2
              exact HP4.out.ends HR.out rfl rfl rfl rfl
    · by_cases h6 : (c0.toNat : Int) / 16 = 6
      · by_cases h40 : s.size < 40
        · have HM := Lib.hid (peek_s6 (l := ls s) (by rw [← HSZ.out]; exact h0) (by rw [HN0.out]; exact h6) (by rw [← HSZ.out]; exact h40))
          go_enter Try.func51, Try.ntmps51
          go_wp2
          exact bodyPost_ret (v := .tuple #[hdV 0 0 0 0, .int .i64 10]) (by simp [results, Try.results51, go_sem]) rfl (PkPost.of HM.out (hk.alloc _))
        · have HM := Lib.hid (peek_6 (l := ls s) (by rw [← HSZ.out]; exact h40) (by rw [HN0.out]; exact h6))
          have hx6 : 6 < s.size := by omega
          have hx4 : 4 < s.size := by omega
          have hx5 : 5 < s.size := by omega
          have g6 := ls_get s 6 hx6
          have g4 := ls_get s 4 hx4
          have g5 := ls_get s 5 hx5
          obtain ⟨c4, hc4⟩ : ∃ c, cf (ls s) 4 = c := ⟨_, rfl⟩
          obtain ⟨c5, hc5⟩ : ∃ c, cf (ls s) 5 = c := ⟨_, rfl⟩
          obtain ⟨c6, hc6⟩ : ∃ c, cf (ls s) 6 = c := ⟨_, rfl⟩
          rw [hc4] at g4
          rw [hc5] at g5
          rw [hc6] at g6
          have b4 := u8_bd c4
          have b5 := u8_bd c5
          have b6 := u8_bd c6
          have HD := Lib.hid (show Dg.h6 (ls s) = ⟨6, 40, 40 + 256 * (c4.toNat : Int) + (c5.toNat : Int), (c6.toNat : Int)⟩ by
            unfold Dg.h6
            unfold n
            rw [hc4, hc5, hc6, Int.mul_comm 256, Int.add_assoc])
          clear hc4 hc5 hc6
          have i6 : (6 : Int) < (s.size : Int) := by omega
          have i5 : (5 : Int) < (s.size : Int) := by omega
          have i4 : (4 : Int) < (s.size : Int) := by omega
          go_enter Try.func51, Try.ntmps51
          go_wp2
          obtain ⟨b, hb⟩ : ∃ b, w.heap.size = b := ⟨_, rfl⟩
          obtain ⟨wA, hwA⟩ : ∃ wA, (w.alloc (.cells #[.int .i64 0, .int .i64 0, .int .i64 0, .int .i64 0] 98)).alloc (.cells #[.int .i64 6, .int .i64 40, .int .i64 0, .int .i64 (c6.toNat : Int)] 98) = wA := ⟨_, rfl⟩
          have hP := Peeking.start (w0 := w0) hk c6.toNat hb hwA
          rw [hwA, hb]
          clear hwA hb hk
          have wr1 : ∀ x : UInt8, IntKind.i64.wrap (x.toNat : Int) = (x.toNat : Int) := fun x => wrapI (by have := u8_bd x; omega) (by have := u8_bd x; omega)
          have wr2 : ∀ x : UInt8, IntKind.i64.wrap (256 * (x.toNat : Int)) = 256 * (x.toNat : Int) := fun x => wrapI (by have := u8_bd x; omega) (by have := u8_bd x; omega)
          have wr3 : ∀ x : UInt8, IntKind.i64.wrap (40 + 256 * (x.toNat : Int)) = 40 + 256 * (x.toNat : Int) := fun x => wrapI (by have := u8_bd x; omega) (by have := u8_bd x; omega)
          have wr4 : ∀ x y : UInt8, IntKind.i64.wrap (40 + 256 * (x.toNat : Int) + (y.toNat : Int)) = 40 + 256 * (x.toNat : Int) + (y.toNat : Int) := fun x y => wrapI (by have := u8_bd x; have := u8_bd y; omega) (by have := u8_bd x; have := u8_bd y; omega)
          go_still_tail 10, (by kernel_rfl)
          change wpList _ _ _ _ _ wA.drew
          have hP2 := hP.eqv (Eqv.drew wA)
          generalize wA.drew = wB at *
          obtain ⟨L, hL⟩ : ∃ L : Int, 40 + 256 * (c4.toNat : Int) + (c5.toNat : Int) = L := ⟨_, rfl⟩
          have hP4 := hP2.setL L
          have HD2 := HD.out
          rw [hL] at HD2 ⊢
          have HPK := Lib.hid (HM.out.trans (congrArg (fun d => may d 40) HD2))
          obtain ⟨_, _, ⟨x0, x1, x2, x3, y0, y1, y2, y3⟩, ⟨u0, u1, u2, u3, v0, v1, v2, v3⟩⟩ := id hP2
          have HP4 := Lib.hid hP4
          have hL0 : 40 ≤ L := by omega
          have h4' : ((c0.toNat : Int) / 16 == 4) = false := by rw [h6]; rfl
          clear hP hP2 hP4 wr1 wr2 wr3 wr4 HD2 hL
          by_cases e3 : 4080 < L
          · have HR := Lib.hid (show peek (ls s) = (z, 15) by rw [HPK.out]; unfold may; rw [if_neg (by show ¬ ((40 : Int) < 40 ∨ L < 40); omega), if_pos (by show L > 4080; omega)])
            go_wp2
            exact HP4.out.ends HR.out rfl rfl rfl rfl
          · have HR := Lib.hid (show peek (ls s) = (⟨6, 40, L, (c6.toNat : Int)⟩, 0) by rw [HPK.out]; unfold may; rw [if_neg (by show ¬ ((40 : Int) < 40 ∨ L < 40); omega), if_neg (by show ¬ L > 4080; omega)])
            go_wp2
            exact HP4.out.ends HR.out rfl rfl rfl rfl
      · have HM := Lib.hid (peek_kind (l := ls s) (by rw [← HSZ.out]; exact h0) (by rw [HN0.out]; exact h4) (by rw [HN0.out]; exact h6))
        have n4 : ((c0.toNat : Int) / 16 != 4) = true := by simpa using h4
        have n6 : ((c0.toNat : Int) / 16 != 6) = true := by simpa using h6
        go_enter Try.func51, Try.ntmps51
        go_wp2
        exact bodyPost_ret (v := .tuple #[hdV 0 0 0 0, .int .i64 14]) (by simp [results, Try.results51, go_sem]) rfl (PkPost.of HM.out (hk.alloc _))
end Go.Proofs.Ytpkidopnkofccaa
namespace Go.Proofs.Ytpkidopnkofccaa
open Go.RowKit Gf Dg
set_option maxRecDepth 100000
theorem IsT.oneAt {w : World} {b : Nat} (hb : w.heap.size = b) (s : ByteArray) (t : TypeId) : IsT (w.alloc (.cells #[.string s] t)) (some ⟨b, 0, none⟩) 1 [ls s] := by subst hb; exact IsT.one w s t
theorem IsT.twoAt {w : World} {b : Nat} (hb : w.heap.size = b) (s u : ByteArray) (t : TypeId) : IsT (w.alloc (.cells #[.string s, .string u] t)) (some ⟨b, 0, none⟩) 2 [ls s, ls u] := by subst hb; exact IsT.two w s u t
/-- What Check answers, by what a beginning tells. -/
theorem check_bad {l : List UInt8} {r : Hd} {e : Int} (h : peek l = (r, e)) (he : e ≠ 0) : check l = e := by unfold check; rw [h, if_pos he]
theorem check_short {l : List UInt8} {r : Hd} (h : peek l = (r, 0)) (hl : (l.length : Int) < r.l) : check l = 10 := by unfold check; rw [h, if_neg (by simp), if_pos hl]
theorem check_long {l : List UInt8} {r : Hd} (h : peek l = (r, 0)) (hl : r.l < (l.length : Int)) : check l = 11 := by unfold check; rw [h, if_neg (by simp), if_neg (by show ¬ (l.length : Int) < r.l; omega), if_pos (by show (l.length : Int) > r.l; omega)]
theorem check_eq {l : List UInt8} {r : Hd} (h : peek l = (r, 0)) (hl : (l.length : Int) = r.l) : check l = if r.v = 4 ∧ csum (l.take r.h.toNat) ≠ 0 then 13 else 0 := by
  unfold check; rw [h, if_neg (by simp), if_neg (by show ¬ (l.length : Int) < r.l; omega), if_neg (by show ¬ (l.length : Int) > r.l; omega)]
def ChPost (w0 : World) (l : List UInt8) (e : Ending) (w' : World) : Prop := e = .returned (.int .i64 (check l)) ∧ Keeps w0 w'
set_option maxHeartbeats 1600000 in
theorem dgcheck_any (w0 : World) (s : ByteArray) (w : World) (hs : s.size ≤ 1000000000) (hk : Keeps w0 w) :
    Calls Try.prog 47 #[.string s] w (ChPost w0 (ls s)) := by
  obtain ⟨⟨⟨r1, r2, r3, r4⟩, r5⟩, hr⟩ : ∃ r, peek (ls s) = r := ⟨_, rfl⟩
  have hpk := dgpeek_any w0 s w hs hk
  unfold PkPost HdPost at hpk
  rw [hr] at hpk
  have HPK := Lib.hid hpk
  have hsz := ls_size s
  by_cases h5 : r5 = 0
  · subst h5
    have hok := peek_ok (l := ls s) (by rw [hr])
    rw [hr] at hok
    obtain ⟨o1, o2, o3, o4, o5, o6⟩ := hok
    simp only at o1 o2 o3 o4 o5
    clear hpk
    by_cases hlt : (s.size : Int) < r3
    · have HC := Lib.hid (check_short hr (by rw [← hsz]; exact hlt))
      clear hr hsz
      go_enter Try.func47, Try.ntmps47
      go_wp2_with fail
      refine HPK.out.mono ?_
      rintro e w1 ⟨rfl, hk1⟩
      unfold hdR
      go_wp2
      go_ret
      exact ⟨by rw [HC.out]; rfl, hk1.alloc _⟩
    · by_cases hgt : r3 < (s.size : Int)
      · have HC := Lib.hid (check_long hr (by rw [← hsz]; exact hgt))
        clear hr hsz
        go_enter Try.func47, Try.ntmps47
        go_wp2_with fail
        refine HPK.out.mono ?_
        rintro e w1 ⟨rfl, hk1⟩
        unfold hdR
        go_wp2
        go_ret
        exact ⟨by rw [HC.out]; rfl, hk1.alloc _⟩
      · have he := check_eq hr (by show ((ls s).length : Int) = r3; omega)
        simp only at he
        rcases o5 with o5 | o5
        · subst o5
          obtain ⟨h, rfl⟩ : ∃ h : Nat, r2 = (h : Int) := ⟨r2.toNat, by omega⟩
          have HX := Lib.hid (show ls (s.extract 0 h) = (ls s).take h by rw [ls_part]; simp)
          have HXL := Lib.hid (show (ls (s.extract 0 h)).length ≤ 1000000000 by rw [ls_part, List.length_take]; omega)
          by_cases hz : csum ((ls s).take h) = 0
          · have HC := Lib.hid (show check (ls s) = 0 by rw [he, if_neg (by rw [Int.toNat_natCast]; simp [hz])])
            have HZ := Lib.hid hz
            clear hr hsz he hz
            go_enter Try.func47, Try.ntmps47
            go_wp2_with fail
            refine HPK.out.mono ?_
            rintro e w1 ⟨rfl, hk1⟩
            unfold hdR
            go_wp2_with fail
            with_reducible refine (dgsum_any _ _ _ [ls (s.extract 0 h)] _ (IsT.oneAt (World.size_alloc _ _) (s.extract 0 h) 9) (by simp) (by simpa using HXL.out)).mono ?_
            rintro e w2 ⟨rfl, he2⟩
            rw [show [ls (s.extract 0 h)].flatten = (ls s).take h by rw [← HX.out]; simp, HZ.out]
            go_wp2
            go_ret
            exact ⟨by rw [HC.out]; rfl, ((hk1.alloc _).alloc _).eqv he2⟩
          · have HC := Lib.hid (show check (ls s) = 13 by rw [he, if_pos (by rw [Int.toNat_natCast]; exact ⟨rfl, hz⟩)])
            have HZ := Lib.hid hz
            clear hr hsz he hz
            go_enter Try.func47, Try.ntmps47
            go_wp2_with fail
            refine HPK.out.mono ?_
            rintro e w1 ⟨rfl, hk1⟩
            unfold hdR
            go_wp2_with fail
            with_reducible refine (dgsum_any _ _ _ [ls (s.extract 0 h)] _ (IsT.oneAt (World.size_alloc _ _) (s.extract 0 h) 9) (by simp) (by simpa using HXL.out)).mono ?_
            rintro e w2 ⟨rfl, he2⟩
            rw [show [ls (s.extract 0 h)].flatten = (ls s).take h by rw [← HX.out]; simp]
            have hz2 : (csum ((ls s).take h) != 0) = true := by simpa using HZ.out
            generalize csum ((ls s).take h) = q at *
            go_wp2
            go_ret
            exact ⟨by rw [HC.out]; rfl, ((hk1.alloc _).alloc _).eqv he2⟩
        · subst o5
          have HC := Lib.hid (show check (ls s) = 0 by rw [he, if_neg (by simp)])
          clear hr hsz he
          go_enter Try.func47, Try.ntmps47
          go_wp2_with fail
          refine HPK.out.mono ?_
          rintro e w1 ⟨rfl, hk1⟩
          unfold hdR
          go_wp2
          go_ret
          exact ⟨by rw [HC.out]; rfl, hk1.alloc _⟩
  · have HC := Lib.hid (check_bad hr h5)
    clear hpk hr hsz
    go_enter Try.func47, Try.ntmps47
    go_wp2_with fail
    refine HPK.out.mono ?_
    rintro e w1 ⟨rfl, hk1⟩
    unfold hdR
    go_wp2
    go_ret
    exact ⟨by rw [HC.out]; rfl, hk1.alloc _⟩
set_option maxHeartbeats 1600000 in
theorem dgrcheck_any (w0 : World) (s : ByteArray) (w : World) (hs : s.size ≤ 1000000000) (hk : Keeps w0 w) :
    Calls Try.prog 52 #[.string s] w (ChPost w0 (ls s)) := by
  obtain ⟨⟨⟨r1, r2, r3, r4⟩, r5⟩, hr⟩ : ∃ r, peek (ls s) = r := ⟨_, rfl⟩
  have hpk := dgrpeek_any w0 s w hs hk
  unfold PkPost HdPost at hpk
  rw [hr] at hpk
  have HPK := Lib.hid hpk
  have hsz := ls_size s
  by_cases h5 : r5 = 0
  · subst h5
    have hok := peek_ok (l := ls s) (by rw [hr])
    rw [hr] at hok
    obtain ⟨o1, o2, o3, o4, o5, o6⟩ := hok
    simp only at o1 o2 o3 o4 o5
    clear hpk
    by_cases hlt : (s.size : Int) < r3
    · have HC := Lib.hid (check_short hr (by rw [← hsz]; exact hlt))
      clear hr hsz
      go_enter Try.func52, Try.ntmps52
      go_wp2_with fail
      refine HPK.out.mono ?_
      rintro e w1 ⟨rfl, hk1⟩
      unfold hdR
      go_wp2
      go_ret
      exact ⟨by rw [HC.out]; rfl, hk1.alloc _⟩
    · by_cases hgt : r3 < (s.size : Int)
      · have HC := Lib.hid (check_long hr (by rw [← hsz]; exact hgt))
        clear hr hsz
        go_enter Try.func52, Try.ntmps52
        go_wp2_with fail
        refine HPK.out.mono ?_
        rintro e w1 ⟨rfl, hk1⟩
        unfold hdR
        go_wp2
        go_ret
        exact ⟨by rw [HC.out]; rfl, hk1.alloc _⟩
      · have he := check_eq hr (by show ((ls s).length : Int) = r3; omega)
        simp only at he
        rcases o5 with o5 | o5
        · subst o5
          obtain ⟨h, rfl⟩ : ∃ h : Nat, r2 = (h : Int) := ⟨r2.toNat, by omega⟩
          have HX := Lib.hid (show ls (s.extract 0 h) = (ls s).take h by rw [ls_part]; simp)
          have HXL := Lib.hid (show (s.extract 0 h).size ≤ 1000000000 by rw [ls_size, ls_part, List.length_take]; omega)
          by_cases hz : csum ((ls s).take h) = 0
          · have HC := Lib.hid (show check (ls s) = 0 by rw [he, if_neg (by rw [Int.toNat_natCast]; simp [hz])])
            have HZ := Lib.hid hz
            clear hr hsz he hz
            go_enter Try.func52, Try.ntmps52
            go_wp2_with fail
            refine HPK.out.mono ?_
            rintro e w1 ⟨rfl, hk1⟩
            unfold hdR
            go_wp2_with fail
            refine (dgrsum_any (s.extract 0 h) _ HXL.out).mono ?_
            rintro e w2 ⟨rfl, rfl⟩
            rw [HX.out, HZ.out]
            go_wp2
            go_ret
            exact ⟨by rw [HC.out]; rfl, hk1.alloc _⟩
          · have HC := Lib.hid (show check (ls s) = 13 by rw [he, if_pos (by rw [Int.toNat_natCast]; exact ⟨rfl, hz⟩)])
            have HZ := Lib.hid hz
            clear hr hsz he hz
            go_enter Try.func52, Try.ntmps52
            go_wp2_with fail
            refine HPK.out.mono ?_
            rintro e w1 ⟨rfl, hk1⟩
            unfold hdR
            go_wp2_with fail
            refine (dgrsum_any (s.extract 0 h) _ HXL.out).mono ?_
            rintro e w2 ⟨rfl, rfl⟩
            rw [HX.out]
            have hz2 : (csum ((ls s).take h) != 0) = true := by simpa using HZ.out
            generalize csum ((ls s).take h) = q at *
            go_wp2
            go_ret
            exact ⟨by rw [HC.out]; rfl, hk1.alloc _⟩
        · subst o5
          have HC := Lib.hid (show check (ls s) = 0 by rw [he, if_neg (by simp)])
          clear hr hsz he
          go_enter Try.func52, Try.ntmps52
          go_wp2_with fail
          refine HPK.out.mono ?_
          rintro e w1 ⟨rfl, hk1⟩
          unfold hdR
          go_wp2
          go_ret
          exact ⟨by rw [HC.out]; rfl, hk1.alloc _⟩
  · have HC := Lib.hid (check_bad hr h5)
    clear hpk hr hsz
    go_enter Try.func52, Try.ntmps52
    go_wp2_with fail
    refine HPK.out.mono ?_
    rintro e w1 ⟨rfl, hk1⟩
    unfold hdR
    go_wp2
    go_ret
    exact ⟨by rw [HC.out]; rfl, hk1.alloc _⟩
end Go.Proofs.Ytpkidopnkofccaa
