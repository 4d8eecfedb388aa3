/-
  What body of a share, sizes, Check and may of package packer answer. The memory that was there stays.
-/
import Derived.Test.YtaabfkffemnidaaPrC
namespace Go.Proofs.Ytaabfkffemnidaa
open Go.RowKit Gf Pk Pr Sct
set_option maxRecDepth 100000
set_option linter.unusedSimpArgs false
def bodyRel (w : World) (bb : Nat) (P : List UInt8) (z : Nat) (i : Value) (wr : World) : Prop := ∃ k : Nat, k ≤ z ∧ i = .int .i64 (k : Int) ∧ IsBd bb bb (P ++ List.replicate k 255) wr ∧ Keeps w wr
theorem there_bd {base b : Nat} {l : List UInt8} {w : World} (h : IsBd base b l w) : b < w.heap.size := by
  rcases h with ⟨_, v, hb, _⟩ | ⟨_, v, hb, _⟩
  · exact (Array.getElem?_eq_some_iff.1 hb).1
  · exact (Array.getElem?_eq_some_iff.1 hb).1
set_option maxHeartbeats 3200000 in
theorem prbody_any (p : Bool) (x y z : Nat) (T : ByteArray) (w : World) (hx : x ≤ 184) (hz : z ≤ 184) (hT : T.size ≤ 1000000) :
    Calls Try.prog 20 #[shV p x y z, .string T] w fun e w' => e = .returned (.string (st (bdy (p, x, y, z) (ls T)))) ∧ Keeps w w' := by
  obtain ⟨w1, h1⟩ : ∃ w1, w.alloc (.cells #[.bool p, .int .i64 (x : Int), .int .i64 (y : Int), .int .i64 (z : Int)] 49) = w1 := ⟨_, rfl⟩
  obtain ⟨b0, hb0⟩ : ∃ b0, w.heap.size = b0 := ⟨_, rfl⟩
  have HZ := Lib.hid (show CsAns w b0 (shC p x y z) w1 from CsAns.start (Keeps.refl w) (a := #[.bool p, .int .i64 (x : Int), .int .i64 (y : Int), .int .i64 (z : Int)]) (by simp) hb0 h1)
  have hz1 : w1.heap.size = b0 + 1 := by rw [← h1, World.size_alloc, hb0]
  have HB0 := Lib.hid hb0
  have HTS := Lib.hid (ls_size T)
  have hxc : (UInt8.ofNat x).toNat = x := by rw [UInt8.toNat_ofNat_of_lt' (by show x < 256; omega)]
  have wr1 : IntKind.u8.wrap (x : Int) = (x : Int) := by rw [IntKind.wrap_u8]; omega
  have HW1 := Lib.hid (fun l W hI hl hb => show Calls Try.prog 30 #[.pointer (some ⟨b0 + 1, 0, none⟩), .int .u8 (x : Int)] W fun e w' => e = .returned .nilIface ∧ IsBd (b0 + 1) (b0 + 1) (l ++ [UInt8.ofNat x]) w' ∧ Below (b0 + 1) W w' by
    have := wbyte_any (b0 + 1) (b0 + 1) l (UInt8.ofNat x) W hI hl hb
    rwa [hxc] at this)
  have HW2 := Lib.hid (fun l W hI hl hb => show Calls Try.prog 30 #[.pointer (some ⟨b0 + 1, 0, none⟩), .int .u8 255] W fun e w' => e = .returned .nilIface ∧ IsBd (b0 + 1) (b0 + 1) (l ++ [255]) w' ∧ Below (b0 + 1) W w' from
    wbyte_any (b0 + 1) (b0 + 1) l 255 W hI hl hb)
  clear hxc
  go_enter Try.func20, Try.ntmps20
  go_wp2_with fail
  have hB := IsBd.new w1
  have hkA := (Keeps.refl w1).alloc (.cells #[.pointer none, .slice none 0 0] 60)
  have hbk : (w1.alloc (.cells #[.pointer none, .slice none 0 0] 60)).heap[b0 + 1]? = some (.cells #[.pointer none, .slice none 0 0] 60 (0, 0)) := by rw [← hz1]; exact Array.getElem?_push_size
  obtain ⟨wA, hwA⟩ : ∃ wA, w1.alloc (.cells #[.pointer none, .slice none 0 0] 60) = wA := ⟨_, rfl⟩
  rw [hwA] at hbk hkA
  rw [hwA]
  have HKA := Lib.hid hkA
  have HZA := Lib.hid (HZ.out.keeps hkA)
  have HSZ := Lib.hid (show b0 + 1 ≤ wA.heap.size by rw [← hz1]; exact Below.size hkA)
  have HGR := Lib.hid (show Calls Try.prog 26 #[.pointer (some ⟨b0 + 1, 0, none⟩), .int .i64 184] wA fun e w' => e = .returned (.tuple #[]) ∧ IsBd (b0 + 1) (b0 + 1) [] w' ∧ Below (b0 + 1) wA w' from bgrow_any (b0 + 1) (b0 + 1) 184 wA (Nat.le_refl _) hbk HSZ.out (by decide))
  have HKB := Lib.hid (show ∀ W W', Keeps w W → Below (b0 + 1) W W' → Keeps w W' from fun W W' h k => Below.trans h (Below.mono k (by have := HB0.out; omega)))
  clear h1 hb0 hz1 hB hkA hbk hwA
  refine HGR.out.mono ?_
  rintro _ w2 ⟨rfl, hI2, k2⟩
  have HI2 := Lib.hid hI2
  have HK2 := Lib.hid (HKB.out _ _ HZA.out.k k2)
  have HM2 := Lib.hid (Nat.le_trans HSZ.out (Below.size k2))
  have HZ2 := Lib.hid (HZA.out.z.block (k2.block b0 (Nat.lt_succ_self _)))
  have c0 := HZ2.out.cell 0 rfl
  have c1 := HZ2.out.cell 1 rfl
  have c3 := HZ2.out.cell 3 rfl
  clear hI2 k2
  cases p with
  | true =>
    go_wp2_with (first | (go_at_call 30; refine (HW1.out [] w2 HI2.out (by decide) HM2.out).mono ?_; rintro _ w3 ⟨rfl, hI3, k3⟩; have HI3 := Lib.hid hI3; have HK3 := Lib.hid (HKB.out _ _ HK2.out k3); have HM3 := Lib.hid (Nat.le_trans HM2.out (Below.size k3)); have HZ3 := Lib.hid (HZ2.out.block (k3.block b0 (Nat.lt_succ_self _))); have c4 := HZ3.out.cell 3 rfl; clear hI3 k3) | (go_at_call 27; refine (wstr_any (b0 + 1) (b0 + 1) _ T w3 HI3.out (by simp only [List.nil_append, List.length_cons, List.length_nil]; omega) HM3.out).mono ?_; rintro _ w5 ⟨rfl, hI5, k5⟩; have HI5 := Lib.hid hI5; have HK5 := Lib.hid (HKB.out _ _ HK3.out k5); have HZ5 := Lib.hid (HZ3.out.block (k5.block b0 (Nat.lt_succ_self _))); have c5 := HZ5.out.cell 3 rfl; clear hI5 k5))
    have HPL := Lib.hid (show (([] ++ [UInt8.ofNat x]) ++ ls T).length ≤ 1000001 by simp only [List.nil_append, List.length_append, List.length_cons, List.length_nil, ← HTS.out]; omega)
    have HBD := Lib.hid (show bdy (true, x, y, z) (ls T) = (([] ++ [UInt8.ofNat x]) ++ ls T) ++ List.replicate z 255 by unfold bdy; simp)
    obtain ⟨P, hP⟩ : ∃ P : List UInt8, ([] ++ [UInt8.ofNat x]) ++ ls T = P := ⟨_, rfl⟩
    rw [hP] at HI5 HPL HBD
    clear hP c0 c1 c3 c4
    go_loopw [17] (fun i wr => bodyRel w (b0 + 1) P z i wr) (fun i _ => z - (intOf i).toNat)
    case atStart => exact ⟨0, Nat.zero_le _, rfl, by simpa using HI5.out, HK5.out⟩
    case round =>
      obtain ⟨k, hk, rfl, hI, hkp⟩ := hrel
      have HI := Lib.hid hI
      have HKP := Lib.hid hkp
      have HM := Lib.hid (show b0 + 1 ≤ wr.heap.size from Nat.lt_of_le_of_lt (by have := Below.size hkp; have := HB0.out; omega) (there_bd hI))
      clear hI hkp
      by_cases hlt : k < z
      · have hlI : (k : Int) < (z : Int) := by omega
        have wr2 := wrapI (a := (k : Int) + 1) (by omega) (by omega)
        have HL := Lib.hid (show (P ++ List.replicate k (255 : UInt8)).length ≤ 1000000000 by rw [List.length_append, List.length_replicate]; have := HPL.out; omega)
        go_wp2_with (go_at_call 30; refine (HW2.out _ wr HI.out HL.out HM.out).mono ?_; rintro _ w6 ⟨rfl, hI6, k6⟩; have HI6 := Lib.hid hI6; have HK6 := Lib.hid (HKB.out _ _ HKP.out k6); clear hI6 k6)
        go_roundw
        case rel => exact ⟨k + 1, hlt, by go_num, by rw [List.replicate_succ', ← List.append_assoc]; exact HI6.out, HK6.out⟩
        case measure => simp [intOf]; omega
      · have hlI : ¬ (k : Int) < (z : Int) := by omega
        obtain rfl : k = z := by omega
        go_wp2_with (go_at_call 28; refine (bstr_any (b0 + 1) (b0 + 1) _ wr HI.out HM.out).mono ?_; rintro _ w6 ⟨rfl, k6⟩; have HK6 := Lib.hid (HKB.out _ _ HKP.out k6); clear k6)
        go_ret
        exact ⟨by rw [HBD.out]; rfl, HK6.out⟩
  | false =>
    go_wp2_with (first | (go_at_call 27; refine (wstr_any (b0 + 1) (b0 + 1) _ T w2 HI2.out (by simp only [List.nil_append, List.length_cons, List.length_nil]; omega) HM2.out).mono ?_; rintro _ w5 ⟨rfl, hI5, k5⟩; have HI5 := Lib.hid hI5; have HK5 := Lib.hid (HKB.out _ _ HK2.out k5); have HZ5 := Lib.hid (HZ2.out.block (k5.block b0 (Nat.lt_succ_self _))); have c5 := HZ5.out.cell 3 rfl; clear hI5 k5))
    have HPL := Lib.hid (show ([] ++ ls T).length ≤ 1000001 by simp only [List.nil_append, List.length_append, List.length_cons, List.length_nil, ← HTS.out]; omega)
    have HBD := Lib.hid (show bdy (false, x, y, z) (ls T) = ([] ++ ls T) ++ List.replicate z 255 by unfold bdy; simp)
    obtain ⟨P, hP⟩ : ∃ P : List UInt8, [] ++ ls T = P := ⟨_, rfl⟩
    rw [hP] at HI5 HPL HBD
    clear hP c0 c1 c3
    go_loopw [17] (fun i wr => bodyRel w (b0 + 1) P z i wr) (fun i _ => z - (intOf i).toNat)
    case atStart => exact ⟨0, Nat.zero_le _, rfl, by simpa using HI5.out, HK5.out⟩
    case round =>
      obtain ⟨k, hk, rfl, hI, hkp⟩ := hrel
      have HI := Lib.hid hI
      have HKP := Lib.hid hkp
      have HM := Lib.hid (show b0 + 1 ≤ wr.heap.size from Nat.lt_of_le_of_lt (by have := Below.size hkp; have := HB0.out; omega) (there_bd hI))
      clear hI hkp
      by_cases hlt : k < z
      · have hlI : (k : Int) < (z : Int) := by omega
        have wr2 := wrapI (a := (k : Int) + 1) (by omega) (by omega)
        have HL := Lib.hid (show (P ++ List.replicate k (255 : UInt8)).length ≤ 1000000000 by rw [List.length_append, List.length_replicate]; have := HPL.out; omega)
        go_wp2_with (go_at_call 30; refine (HW2.out _ wr HI.out HL.out HM.out).mono ?_; rintro _ w6 ⟨rfl, hI6, k6⟩; have HI6 := Lib.hid hI6; have HK6 := Lib.hid (HKB.out _ _ HKP.out k6); clear hI6 k6)
        go_roundw
        case rel => exact ⟨k + 1, hlt, by go_num, by rw [List.replicate_succ', ← List.append_assoc]; exact HI6.out, HK6.out⟩
        case measure => simp [intOf]; omega
      · have hlI : ¬ (k : Int) < (z : Int) := by omega
        obtain rfl : k = z := by omega
        go_wp2_with (go_at_call 28; refine (bstr_any (b0 + 1) (b0 + 1) _ wr HI.out HM.out).mono ?_; rintro _ w6 ⟨rfl, k6⟩; have HK6 := Lib.hid (HKB.out _ _ HKP.out k6); clear k6)
        go_ret
        exact ⟨by rw [HBD.out]; rfl, HK6.out⟩
set_option maxHeartbeats 1600000 in
theorem prcheck_any (s : ByteArray) (w : World) (hs : s.size ≤ 1000000) : Calls Try.prog 10 #[.string s] w (Ck15Post w (ls s)) := by
  have HN := Lib.hid (fun W => scneed_any W s W hs (Keeps.refl W))
  unfold NeedPost at HN
  have HK := Lib.hid (Keeps.refl w)
  have hl := ls_size s
  have HP := Lib.hid (fun n W => Ck15Post.of (w0 := w) (l := ls s) (n := n) (W := W))
  have A1 := Lib.hid (ck15_need (l := ls s))
  have A2 := Lib.hid (ck15_short (l := ls s))
  have A3 := Lib.hid (ck15_long (l := ls s))
  have A4 := Lib.hid (ck15_form (l := ls s))
  have A5 := Lib.hid (ck15_ok (l := ls s))
  have AG := Lib.hid (need_good (l := ls s))
  obtain ⟨⟨n, e⟩, hne⟩ : ∃ q, need (ls s) = q := ⟨_, rfl⟩
  simp only [hne] at HN A1 A2 A3 A4 A5 AG
  rw [← hl] at A2 A3 A4 A5
  clear hne
  by_cases he : e = 0
  · subst he
    have hn12 : 12 ≤ n := by obtain ⟨_, _, g1, _, g3⟩ := AG.out rfl; omega
    by_cases h1 : (s.size : Int) < n
    · have HE := Lib.hid (A2.out rfl h1)
      clear hl
      go_enter Try.func10, Try.ntmps10
      go_wp2_with (go_at_call 22; refine (HN.out _).mono ?_; rintro _ w1 ⟨rfl, k1⟩; have HK1 := Lib.hid (HK.out.trans k1); clear k1)
      go_ret
      exact HP.out _ _ HE.out HK1.out
    · by_cases h2 : n < (s.size : Int)
      · have HE := Lib.hid (A3.out rfl h2)
        clear hl
        go_enter Try.func10, Try.ntmps10
        go_wp2_with (go_at_call 22; refine (HN.out _).mono ?_; rintro _ w1 ⟨rfl, k1⟩; have HK1 := Lib.hid (HK.out.trans k1); clear k1)
        go_ret
        exact HP.out _ _ HE.out HK1.out
      · have hn : n = (s.size : Int) := by omega
        have z0 : 0 < s.size := by omega
        have i0 : (0 : Int) < (s.size : Int) := by omega
        have g0 := ls_get s 0 z0
        subst hn
        obtain ⟨x, hx⟩ : ∃ x, cf (ls s) 0 = x := ⟨_, rfl⟩
        rw [hx] at g0 A4 A5
        by_cases h3 : x = 255
        · have HE := Lib.hid (A4.out rfl rfl h3)
          subst h3
          clear hl hx
          go_enter Try.func10, Try.ntmps10
          go_wp2_with (go_at_call 22; refine (HN.out _).mono ?_; rintro _ w1 ⟨rfl, k1⟩; have HK1 := Lib.hid (HK.out.trans k1); clear k1)
          go_ret
          exact HP.out _ _ HE.out HK1.out
        · have HE := Lib.hid (A5.out rfl rfl h3)
          have hb : ((x.toNat : Int) == 255) = false := by rw [beq_eq_false_iff_ne]; intro k; exact h3 (UInt8.toNat_inj.1 (by rw [show ((255 : UInt8).toNat) = 255 from rfl]; omega))
          clear hl hx h3
          go_enter Try.func10, Try.ntmps10
          go_wp2_with (go_at_call 22; refine (HN.out _).mono ?_; rintro _ w1 ⟨rfl, k1⟩; have HK1 := Lib.hid (HK.out.trans k1); clear k1)
          go_ret
          exact HP.out _ _ HE.out HK1.out
  · have HE := Lib.hid (A1.out he)
    have heb : (e == 0) = false := by rw [beq_eq_false_iff_ne]; exact he
    clear hl
    go_enter Try.func10, Try.ntmps10
    go_wp2_with (go_at_call 22; refine (HN.out _).mono ?_; rintro _ w1 ⟨rfl, k1⟩; have HK1 := Lib.hid (HK.out.trans k1); clear k1)
    go_ret
    exact HP.out _ _ HE.out HK1.out
/-- The first error. -/
theorem erL_take {L : List (List UInt8)} {k : Nat} (h : ∀ s ∈ L.take k, ck15 s = 0) (hk : k < L.length) (he : ck15 L[k] ≠ 0) : erL L = ck15 L[k] := by
  induction L generalizing k with
  | nil => cases hk
  | cons s t ih =>
    cases k with
    | zero => show (if ck15 s ≠ 0 then ck15 s else erL t) = _; rw [if_pos (show ck15 s ≠ 0 from he)]; rfl
    | succ k =>
      show (if ck15 s ≠ 0 then ck15 s else erL t) = _
      rw [if_neg (fun x => x (h s (by rw [List.take_succ_cons]; exact List.mem_cons_self ..)))]
      exact ih (fun x hx => h x (by rw [List.take_succ_cons]; exact List.mem_cons_of_mem _ hx)) (by simpa using hk) he
def MayPost (w : World) (r : Int) (e : Ending) (w' : World) : Prop := e = .returned (.int .i64 r) ∧ Keeps w w'
def mayRel (w : World) (L : List (List UInt8)) (i : Value) (wr : World) : Prop := ∃ k : Nat, k ≤ L.length ∧ i = .int .i64 (k : Int) ∧ (∀ s ∈ L.take k, ck15 s = 0) ∧ Keeps w wr
set_option maxHeartbeats 3200000 in
theorem prmay_any (pid count : Int) {a : Option Addr} {len cap : Nat} {L : List (List UInt8)} (w : World) (h : IsT w a len L) (hn : L.length ≤ 1000000) (hs : ∀ s ∈ L, s.length ≤ 1000000) :
    Calls Try.prog 15 #[.int .i64 pid, .int .i64 count, .slice a len cap] w (MayPost w (paE pid count L)) := by
  by_cases hok : okS pid count
  · have HE := Lib.hid (show paE pid count L = erL L by unfold paE; rw [if_pos hok])
    rw [HE.out]
    obtain ⟨⟨o1, o2⟩, o3, o4⟩ := hok
    have p1 : ¬ pid < 0 := by omega
    have p2 : ¬ 8191 ≤ pid := by omega
    have p3 : ¬ count < 0 := by omega
    have p4 : ¬ 16 ≤ count := by omega
    obtain ⟨N, hN⟩ : ∃ N, L.length = N := ⟨_, rfl⟩
    have hll : len = N := by rw [← hN]; exact h.1
    subst hll
    have HI := Lib.hid h
    have HN := Lib.hid hN
    have HS := Lib.hid hs
    rw [hN] at hn
    clear h hN hs o1 o2 o3 o4
    go_enter Try.func15, Try.ntmps15
    go_wp2
    go_loopw [26] (fun i wr => mayRel w L i wr) (fun i _ => len - (intOf i).toNat)
    case atStart => exact ⟨0, Nat.zero_le _, rfl, by simp, Keeps.refl w⟩
    case round =>
      obtain ⟨k, hk, rfl, hall, hkp⟩ := hrel
      rw [HN.out] at hk
      have HALL := Lib.hid hall
      have HKP := Lib.hid hkp
      clear hall hkp
      by_cases hlt : k < len
      · have hlI : (k : Int) < (len : Int) := by omega
        have hkL : k < L.length := by rw [HN.out]; exact hlt
        obtain ⟨b1, off1, rfl, hc1⟩ := (HI.out.keeps HKP.out).get hkL
        rw [List.getD_eq_getElem?_getD, List.getElem?_eq_getElem hkL] at hc1
        simp only [Option.getD_some] at hc1
        have HNX := Lib.hid (show ck15 L[k] = 0 → ∀ s ∈ L.take (k + 1), ck15 s = 0 from fun h s hs => by
          rw [List.take_add_one, List.getElem?_eq_getElem hkL] at hs
          rcases List.mem_append.1 hs with y | y
          · exact HALL.out s y
          · rw [List.mem_singleton.1 y]; exact h)
        have HER := Lib.hid (erL_take HALL.out hkL)
        obtain ⟨T, hT⟩ : ∃ T, st L[k] = T := ⟨_, rfl⟩
        have hTl : L[k] = ls T := by rw [← hT, ls_st]
        have HCK := Lib.hid (fun W => prcheck_any T W (by rw [← hT, st_size]; exact HS.out _ (List.getElem_mem hkL)))
        unfold Ck15Post at HCK
        rw [hT] at hc1
        rw [hTl] at HNX HER
        obtain ⟨c, hc⟩ : ∃ c, ck15 (ls T) = c := ⟨_, rfl⟩
        rw [hc] at HCK HNX HER
        have wr2 := wrapI (a := (k : Int) + 1) (by omega) (by omega)
        clear hT hTl hc
        by_cases hc0 : c = 0
        · subst hc0
          replace HNX := Lib.hid (HNX.out rfl)
          go_wp2_with (go_at_call 10; refine (HCK.out _).mono ?_; rintro _ w2 ⟨rfl, k2⟩; have HK2 := Lib.hid (HKP.out.trans k2); clear k2)
          go_roundw
          case rel => exact ⟨k + 1, by rw [HN.out]; omega, by go_num, HNX.out, HK2.out⟩
          case measure => simp [intOf]; omega
        · have hcb : (c == 0) = false := by rw [beq_eq_false_iff_ne]; exact hc0
          replace HER := Lib.hid (HER.out hc0)
          go_wp2_with (go_at_call 10; refine (HCK.out _).mono ?_; rintro _ w2 ⟨rfl, k2⟩; have HK2 := Lib.hid (HKP.out.trans k2); clear k2)
          go_ret
          exact ⟨by rw [HER.out]; rfl, HK2.out⟩
      · have hlI : ¬ (k : Int) < (len : Int) := by omega
        have HER := Lib.hid (show erL L = 0 from erL_zero.2 (by
          have : L.take k = L := List.take_of_length_le (by rw [HN.out]; omega)
          rw [← this]; exact HALL.out))
        go_wp2
        go_ret
        exact ⟨by rw [HER.out]; rfl, HKP.out⟩
  · have HE := Lib.hid (show paE pid count L = 15 by unfold paE; rw [if_neg hok])
    rw [HE.out]
    clear h hs
    by_cases p1 : pid < 0
    · clear hok
      go_enter Try.func15, Try.ntmps15
      go_wp2
      go_ret
      exact ⟨rfl, Keeps.refl w⟩
    by_cases p2 : 8191 ≤ pid
    · clear hok
      go_enter Try.func15, Try.ntmps15
      go_wp2
      go_ret
      exact ⟨rfl, Keeps.refl w⟩
    by_cases p3 : count < 0
    · clear hok
      go_enter Try.func15, Try.ntmps15
      go_wp2
      go_ret
      exact ⟨rfl, Keeps.refl w⟩
    have p4 : 16 ≤ count := by
      rcases Int.lt_or_le count 16 with h | h
      · exact absurd ⟨⟨by omega, by omega⟩, by omega, by omega⟩ hok
      · exact h
    clear hok
    go_enter Try.func15, Try.ntmps15
    go_wp2
    go_ret
    exact ⟨rfl, Keeps.refl w⟩
def szL (L : List (List UInt8)) : List Int := L.map fun s => (s.length : Int)
def upZ (L : List (List UInt8)) (k : Nat) : List Int := szL (L.take k) ++ List.replicate (L.length - k) 0
theorem upZ_zero (L : List (List UInt8)) : upZ L 0 = List.replicate L.length 0 := rfl
theorem upZ_full (L : List (List UInt8)) : upZ L L.length = szL L := by unfold upZ; rw [List.take_length, Nat.sub_self]; simp
theorem upZ_length {L : List (List UInt8)} {k : Nat} (h : k ≤ L.length) : (upZ L k).length = L.length := by unfold upZ szL; rw [List.length_append, List.length_map, List.length_take, List.length_replicate]; omega
theorem upZ_set {L : List (List UInt8)} {k : Nat} (h : k < L.length) : (upZ L k).set k (L[k].length : Int) = upZ L (k + 1) := by
  unfold upZ szL
  have hl : ((L.take k).map fun s => (s.length : Int)).length = k := by rw [List.length_map, List.length_take]; omega
  rw [List.set_append_right _ _ (by omega), hl, Nat.sub_self, show L.length - k = (L.length - (k + 1)) + 1 by omega, List.replicate_succ, List.set_cons_zero, List.take_add_one, List.getElem?_eq_getElem h, List.map_append, List.append_assoc]
  rfl
def szRel (w : World) (g : Nat) (L : List (List UInt8)) (i : Value) (wr : World) : Prop := ∃ k : Nat, k ≤ L.length ∧ i = .int .i64 (k : Int) ∧ OwnE rowZ wr g (.slice (some ⟨g, 0, none⟩) L.length L.length) (upZ L k) ∧ Keeps w wr
def SzPost (w : World) (L : List (List UInt8)) (e : Ending) (w' : World) : Prop := e = .returned (.slice (some ⟨w.heap.size, 0, none⟩) L.length L.length) ∧ OwnE rowZ w' w.heap.size (.slice (some ⟨w.heap.size, 0, none⟩) L.length L.length) (szL L) ∧ Keeps w w'
set_option maxHeartbeats 3200000 in
theorem prsizes_any {a : Option Addr} {len cap : Nat} {L : List (List UInt8)} (w : World) (h : IsT w a len L) (hn : L.length ≤ 1000000) (hs : ∀ s ∈ L, s.length ≤ 1000000) :
    Calls Try.prog 16 #[.slice a len cap] w (SzPost w L) := by
  obtain ⟨N, hN⟩ : ∃ N, L.length = N := ⟨_, rfl⟩
  have hll : len = N := by rw [← hN]; exact h.1
  subst hll
  have HI := Lib.hid h
  have HN := Lib.hid hN
  have HS := Lib.hid hs
  rw [hN] at hn
  obtain ⟨MC, hMC⟩ : ∃ MC, madeCells rowZ.z.cells (len * rowZ.sz) = MC := ⟨_, rfl⟩
  have hmk0 := makeE rowZ len hn
  have hmo := OwnE.made rowZ 0 rfl w len hn
  rw [hMC] at hmo
  simp only [hMC] at hmk0
  have hmk : ∀ W : World, (Instr.makeSlice 37 (.int .i64 (len : Int)) (.int .i64 (len : Int))).run Try.prog W = .ok (.slice (some ⟨W.heap.size, 0, none⟩) len len) (W.alloc (.cells MC 3)) := hmk0
  obtain ⟨wA, hA⟩ : ∃ wA, w.alloc (.cells MC 3) = wA := ⟨_, rfl⟩
  rw [show w.alloc (.cells MC rowZ.E) = wA from hA] at hmo
  obtain ⟨g, hg⟩ : ∃ g, w.heap.size = g := ⟨_, rfl⟩
  rw [hg] at hmo
  have HA := Lib.hid (show szRel w g L (.int .i64 0) wA from ⟨0, Nat.zero_le _, rfl, by rw [upZ_zero, hN]; exact hmo, by rw [← hA]; exact (Keeps.refl w).alloc _⟩)
  have HG := Lib.hid hg
  clear h hN hs hMC hmk0 hmo
  go_enter Try.func16, Try.ntmps16
  go_wp2
  clear hmk hA
  go_loopw [11] (fun i wr => szRel w g L i wr) (fun i _ => len - (intOf i).toNat)
  case atStart => exact HA.out
  case round =>
    obtain ⟨k, hk, rfl, ho, hkp⟩ := hrel
    rw [HN.out] at hk ho
    have HO := Lib.hid ho
    have HKP := Lib.hid hkp
    clear ho hkp
    by_cases hlt : k < len
    · have hlI : (k : Int) < (len : Int) := by omega
      have hkL : k < L.length := by rw [HN.out]; exact hlt
      obtain ⟨b1, off1, rfl, hc1⟩ := (HI.out.keeps HKP.out).get hkL
      rw [List.getD_eq_getElem?_getD, List.getElem?_eq_getElem hkL] at hc1
      simp only [Option.getD_some] at hc1
      have HST := Lib.hid (HO.out.put (i := k) (by rw [upZ_length (by omega)]; exact hkL) (L[k].length : Int))
      have hth := HO.out.there (i := k) (by rw [upZ_length (by omega)]; exact hkL) 0 (by decide)
      obtain ⟨ht1, ht2⟩ := hth
      rw [show k * rowZ.sz + 0 = k by show k * 1 + 0 = k; omega] at ht1 ht2
      obtain ⟨u, hu⟩ := Option.isSome_iff_exists.1 ht1
      have HUZ := Lib.hid (upZ_set hkL)
      have hzs := HS.out _ (List.getElem_mem hkL)
      obtain ⟨n, hnn⟩ : ∃ n, L[k].length = n := ⟨_, rfl⟩
      rw [hnn] at HST HUZ hzs
      obtain ⟨T, hT⟩ : ∃ T, st L[k] = T := ⟨_, rfl⟩
      have hTz : (T.size : Int) = (n : Int) := by rw [← hT, st_size, hnn]
      rw [hT] at hc1
      have wr2 := wrapI (a := (k : Int) + 1) (by omega) (by omega)
      have HSX := Lib.hid (show OwnE rowZ (wr.setCell ⟨g, k, none⟩ (.int .i64 (n : Int))) g (.slice (some ⟨g, 0, none⟩) len len) (upZ L (k + 1)) by
        rw [← HUZ.out]
        have := HST.out
        rwa [show k * rowZ.sz = k from Nat.mul_one k] at this)
      have HKX := Lib.hid (show Keeps w (wr.setCell ⟨g, k, none⟩ (.int .i64 (n : Int))) from (Only.setCell wr ⟨g, k, none⟩ (.int .i64 (n : Int))).keeps HKP.out (by rw [HG.out]; exact Nat.le_refl _))
      clear hT hnn HST ht1
      go_wp2
      go_roundw
      case rel => exact ⟨k + 1, by rw [HN.out]; omega, by go_num, by rw [HN.out]; exact HSX.out, HKX.out⟩
      case measure => simp [intOf]; omega
    · have hlI : ¬ (k : Int) < (len : Int) := by omega
      obtain rfl : k = len := by omega
      have HF := Lib.hid (show upZ L k = szL L by rw [← HN.out]; exact upZ_full L)
      go_wp2
      go_ret
      exact ⟨by rw [HG.out, HN.out]; rfl, by rw [HG.out, HN.out, ← HF.out]; exact HO.out, HKP.out⟩
end Go.Proofs.Ytaabfkffemnidaa
