/-
  Which sections a Pat and a Pmt that may be have (package psi's carriers), and how many bytes a Pmt's body has. The memory that was there stays.
-/
import Derived.Test.YtebfihghfkcicaaPsB
import Derived.Test.YtebfihghfkcicaaDrawHT
namespace Go.Proofs.Ytebfihghfkcicaa
open Go.RowKit Gf Ps Sct
set_option maxRecDepth 100000
namespace Ps
theorem patB_append : ∀ (l m : List (Int × Int)), patB (l ++ m) = patB l ++ patB m
  | [], _ => rfl
  | p :: l, m => by
    show b2 _ ++ (b2 _ ++ patB (l ++ m)) = (b2 _ ++ (b2 _ ++ patB l)) ++ patB m
    rw [patB_append l m, List.append_assoc, List.append_assoc]
theorem patB_snoc {l : List (Int × Int)} {k : Nat} (h : k < l.length) : patB (l.take (k + 1)) = patB (l.take k) ++ (b2 l[k].1.toNat ++ b2 (l[k].2.toNat + 57344)) := by
  rw [List.take_add_one, List.getElem?_eq_getElem h, Option.toList_some, patB_append]
  show _ ++ (b2 _ ++ (b2 _ ++ [])) = _
  rw [List.append_nil]
theorem stsB_append : ∀ (l m : List Strm), stsB (l ++ m) = stsB l ++ stsB m
  | [], _ => rfl
  | p :: l, m => by
    show stB _ ++ stsB (l ++ m) = (stB _ ++ stsB l) ++ stsB m
    rw [stsB_append l m, List.append_assoc]
theorem stsB_snoc {l : List Strm} {k : Nat} (h : k < l.length) : stsB (l.take (k + 1)) = stsB (l.take k) ++ stB l[k] := by
  rw [List.take_add_one, List.getElem?_eq_getElem h, Option.toList_some, stsB_append]
  show _ ++ (stB _ ++ []) = _
  rw [List.append_nil]
end Ps
theorem once_kb {wB wr W : World} {n : Nat} {L : Nat → Bool} (hk : Keeps wB wr) (h : Once n (Eqv wr) (Keeps wB) L W) : Keeps wB W := by
  cases e : L n
  · exact hk.eqv (h.1 e)
  · exact h.2 e
def carRel (wB : World) (bb n : Nat) (B : Nat → List UInt8) (i : Value) (wr : World) : Prop := ∃ k : Nat, k ≤ n ∧ i = .int .i64 (k : Int) ∧ IsBd bb bb (B k) wr ∧ Keeps wB wr
set_option maxHeartbeats 3200000 in
theorem patcar_any {x : Pat} {a : Option Addr} {cap : Nat} (w : World) (h : IsE rowPr w a x.l.length x.l) (hl : x.l.length ≤ 1000) (hok : ∀ p ∈ x.l, okPr p) :
    Calls Try.prog 74 #[patV x a cap] w fun e w' => e = .returned (secV (patS x)) ∧ Keeps w w' := by
  obtain ⟨str, ver, l⟩ := x
  simp only at h hl hok
  unfold patS
  show Calls Try.prog 74 #[.agg #[.int .i64 str, .int .i64 ver, .slice a l.length cap]] w fun e w' => e = .returned (secV ⟨0, false, str, ver, true, 0, 0, st (patB l)⟩) ∧ Keeps w w'
  obtain ⟨n, hn⟩ : ∃ n, l.length = n := ⟨_, rfl⟩
  rw [hn] at h hl ⊢
  obtain ⟨wA, hA⟩ : ∃ wX, w.alloc (.cells #[.int .i64 str, .int .i64 ver, .slice a n cap] 24) = wX := ⟨_, rfl⟩
  obtain ⟨b, hb⟩ : ∃ b, w.heap.size = b := ⟨_, rfl⟩
  have HA := Lib.hid (CsAns.start (Keeps.refl w) (a := #[.int .i64 str, .int .i64 ver, .slice a n cap]) (by simp) hb hA)
  have hz1 : wA.heap.size = b + 1 := by rw [← hA, World.size_alloc, hb]
  obtain ⟨wB, hB⟩ : ∃ wX, wA.alloc (.cells #[.int .i64 0, .bool false, .int .i64 0, .int .i64 0, .bool false, .int .i64 0, .int .i64 0, .string ⟨#[]⟩] 65) = wX := ⟨_, rfl⟩
  have kB : Keeps wA wB := by rw [← hB]; exact (Keeps.refl wA).alloc _
  have AS := Lib.hid (Ans.start HA.out.k hz1 hB)
  have HZ := Lib.hid (HA.out.keeps kB)
  have hz2 : wB.heap.size = b + 2 := by rw [← hB, World.size_alloc, hz1]
  have HB0 := Lib.hid hz2
  obtain ⟨wC, hC⟩ : ∃ wX, wB.alloc (.cells #[.pointer none, .slice none 0 0] 144) = wX := ⟨_, rfl⟩
  have kC : Keeps wB wC := by rw [← hC]; exact (Keeps.refl wB).alloc _
  have HIC := Lib.hid (show IsBd (b + 2) (b + 2) [] wC by rw [← hC, ← hz2]; exact IsBd.new wB)
  have HKC := Lib.hid kC
  have HI := Lib.hid (h.keeps HZ.out.k)
  have q0 := (HZ.out.z.keeps kC).cell 0 rfl
  have q1 := (HZ.out.z.keeps kC).cell 1 rfl
  have q2 := (HZ.out.z.keeps kC).cell 2 rfl
  have HN := Lib.hid hn
  have HOK := Lib.hid hok
  obtain ⟨T, hT⟩ : ∃ T, st (patB l) = T := ⟨_, rfl⟩
  have HT := Lib.hid hT
  rw [hT]
  clear h hn hok kB kC hT
  go_enter Try.func74, Try.ntmps74
  go_wp2
  go_loopw [9] (fun i wr => carRel wB (b + 2) n (fun k => patB (l.take k)) i wr) (fun i _ => n - (intOf i).toNat)
  case atStart => exact ⟨0, Nat.zero_le _, rfl, HIC.out, HKC.out⟩
  case round =>
    obtain ⟨k, hk, rfl, hI, hkp⟩ := hrel
    have HKP := Lib.hid hkp
    have HIB := Lib.hid hI
    have HM := Lib.hid (show b + 2 ≤ wr.heap.size by rw [← HB0.out]; exact Below.size hkp)
    have s0 := (HZ.out.z.keeps hkp).cell 0 rfl
    have s1 := (HZ.out.z.keeps hkp).cell 1 rfl
    have s2 := (HZ.out.z.keeps hkp).cell 2 rfl
    clear q0 q1 q2 hI hA hb hz1 hB hz2 hC
    by_cases hlt : k < n
    · have hlI : (k : Int) < (n : Int) := by omega
      have hkL : k < l.length := by have := HN.out; omega
      obtain ⟨b1, o1, rfl, _, hc⟩ := (HI.out.keeps HKP.out).get hkL
      obtain ⟨⟨p1, p2⟩, hp⟩ : ∃ q, l[k] = q := ⟨_, rfl⟩
      have hq := HOK.out _ (List.getElem_mem hkL)
      rw [hp] at hq hc
      obtain ⟨⟨k1, k2⟩, k3, k4⟩ := hq
      simp only at k1 k2 k3 k4
      have c0 : wr.cell? ⟨b1, o1 + k * 2, none⟩ = some (.int .i64 p1) := hc 0 _ rfl
      have c1 : wr.cell? ⟨b1, o1 + k * 2 + 1, none⟩ = some (.int .i64 p2) := by rw [Nat.add_assoc]; exact hc 1 _ rfl
      have C1 := Lib.hid (fun W => pstwo_any p1.toNat (by omega) (N := p1) (by omega) W)
      have C2 := Lib.hid (fun W => pstwo_any (p2.toNat + 57344) (by omega) (N := p2 + 57344) (by omega) W)
      obtain ⟨T1, hT1⟩ : ∃ T, st (b2 p1.toNat) = T := ⟨_, rfl⟩
      obtain ⟨T2, hT2⟩ : ∃ T, st (b2 (p2.toNat + 57344)) = T := ⟨_, rfl⟩
      have z1 : T1.size = 2 := by rw [← hT1, st_size]; rfl
      have z2 : T2.size = 2 := by rw [← hT2, st_size]; rfl
      have z3 : (T1 ++ T2).size = 4 := by rw [ByteArray.size_append, z1, z2]
      have HS := Lib.hid (show patB (l.take k) ++ ls (T1 ++ T2) = patB (l.take (k + 1)) by rw [patB_snoc hkL, hp, ← hT1, ← hT2, st_append, ls_st])
      have HL := Lib.hid (show (patB (l.take k)).length + (T1 ++ T2).size ≤ 1000000000 by rw [patB_length, List.length_take, z3]; omega)
      simp only [hT1] at C1
      simp only [hT2] at C2
      have wr1 := wrapI (a := p2 + 57344) (by omega) (by omega)
      have wr2 := wrapI (a := (k : Int) + 1) (by omega) (by omega)
      clear hc hp hT1 hT2
      go_wp2
      obtain ⟨bq, hbq⟩ : ∃ bq, wr.heap.size = bq := ⟨_, rfl⟩
      obtain ⟨wX, hX⟩ : ∃ wX, wr.alloc (.cells #[.int .i64 p1, .int .i64 p2] 52) = wX := ⟨_, rfl⟩
      have HQ := Lib.hid (show CsAt bq [.int .i64 p1, .int .i64 p2] wX by rw [← hX, ← hbq]; exact CsAt.made wr #[.int .i64 p1, .int .i64 p2] _ (by simp))
      have KX := Lib.hid (show Keeps wr wX by rw [← hX]; exact (Keeps.refl wr).alloc _)
      rw [hX, hbq]
      clear hX
      refine wp_draw_tail 8 (by kernel_rfl)
        [.pointer (some ⟨bq, 0, none⟩), .int .i64 p1, .string T1, .pointer (some ⟨bq, 1, none⟩), .int .i64 p2, .int .i64 (p2 + 57344), .string T2, .string (T1 ++ T2)]
        (fun _ W => Keeps wX W) rfl (by kernel_rfl) (by kernel_rfl) (fin := ?fin1) ?hfin1 ((Keeps.refl wX).eqv (Eqv.drew wX)) ?each1 ?hend1
      case hfin1 => simp [seqA, dstOf, Act.put]; rfl
      case each1 =>
        refine ⟨?_, ?_, ?_, ?_, ?_, ?_, ?_, ?_, trivial⟩
        all_goals intro L w5 h0 hd hsh hw
        all_goals unfold Does
        all_goals have e0 := (HQ.out.keeps hw).cell 0 rfl
        all_goals have e1 := (HQ.out.keeps hw).cell 1 rfl
        case _ => go_simp
        case _ => go_simp
        case _ => go_simp; refine (C1.out w5).mono ?_; rintro e w6 ⟨rfl, he⟩; exact ⟨_, rfl, rfl, fun _ _ => hw.trans he⟩
        case _ => go_simp
        case _ => go_simp
        case _ => go_simp
        case _ => go_simp; refine (C2.out w5).mono ?_; rintro e w6 ⟨rfl, he⟩; exact ⟨_, rfl, rfl, fun _ _ => hw.trans he⟩
        case _ => go_simp
      case hend1 =>
      intro L w8 hL hw
      have kw8 := KX.out.trans hw
      have HK8 := Lib.hid (HKP.out.trans kw8)
      have HI8 := Lib.hid (HIB.out.keeps kw8)
      have HM8 := Lib.hid (Nat.le_trans HM.out (Below.size kw8))
      simp only [List.drop_succ_cons, List.drop_zero]
      clear hw hL kw8 s0 s1 s2
      go_wp2_with (go_at_call 76; refine (wstr_any (b + 2) (b + 2) _ (T1 ++ T2) w8 HI8.out HL.out HM8.out).mono ?_; rintro _ w9 ⟨rfl, hI9, k9⟩; have HI9 := Lib.hid hI9; have HK9 := Lib.hid (HK8.out.on HB0.out k9); clear hI9 k9)
      go_roundw
      case rel => exact ⟨k + 1, hlt, by go_num, by show IsBd _ _ (patB (l.take (k + 1))) _; rw [← HS.out]; exact HI9.out, HK9.out⟩
      case measure => simp [intOf]; omega
    · have hlI : ¬ (k : Int) < (n : Int) := by omega
      obtain rfl : k = n := by omega
      have HIT := Lib.hid (show IsBd (b + 2) (b + 2) (patB l) wr by have := HIB.out; show IsBd _ _ _ _; rw [← show l.take k = l from List.take_of_length_le (by rw [HN.out]; exact Nat.le_refl _)]; exact this)
      have HCC := Lib.hid (fun W => pscarrier_any 0 str ver T W)
      go_wp2
      refine wp_draw_tail 6 (by kernel_rfl)
        [.pointer (some ⟨b, 0, none⟩), .int .i64 str, .pointer (some ⟨b, 1, none⟩), .int .i64 ver, .string T, secV ⟨0, false, str, ver, true, 0, 0, T⟩]
        (Once 4 (Eqv wr) (Keeps wB)) rfl (by kernel_rfl) (by kernel_rfl) (fin := ?fin2) ?hfin2 (Once.start (Eqv.drew wr)) ?each2 ?hend2
      case hfin2 => simp [seqA, dstOf, Act.put]; rfl
      case each2 =>
        refine ⟨?_, ?_, ?_, ?_, ?_, ?_, trivial⟩
        all_goals intro L w5 h0 hd hsh hw
        all_goals unfold Does
        all_goals have kw := once_kb HKP.out hw
        all_goals have e0 := (HZ.out.z.keeps kw).cell 0 rfl
        all_goals have e1 := (HZ.out.z.keeps kw).cell 1 rfl
        rotate_left 4
        · have he := hw.1 h0
          go_simp
          refine (bstr_any (b + 2) (b + 2) _ w5 (HIT.out.keeps ((Keeps.refl wr).eqv he)) (by rw [he.size]; exact HM.out)).mono ?_
          rintro e w6 ⟨rfl, k6⟩
          exact ⟨_, rfl, by rw [← HT.out], fun L' k => Once.done k (kw.on HB0.out k6)⟩
        · have h4 := hd 4 (by kernel_rfl)
          go_simp
          refine (HCC.out w5).mono ?_
          rintro e w6 ⟨rfl, k6⟩
          exact ⟨_, rfl, rfl, fun L' k => ⟨fun x => (by rw [(k 4).2 (.inl h4)] at x; cases x), fun _ => kw.trans k6⟩⟩
        all_goals (go_simp; exact fun L' k => hw.same (by decide) k)
      case hend2 =>
      intro L w8 hL hw
      have kw := hw.2 (hL 4 (by decide))
      have A8 := Lib.hid (AS.out.keeps kw)
      simp only [List.drop_succ_cons, List.drop_zero]
      clear hw hL kw s0 s1 s2
      go_wp2_with (refine wpList_store_mid rfl 65 _ _ rfl (b + 1) 0 (secC ⟨0, false, str, ver, true, 0, 0, T⟩).toArray rfl rfl A8.out.z.there (by kernel_rfl) (all_oneCell_toArray (secC_one _)) ?_)
      have E := A8.out.ends ⟨0, false, str, ver, true, 0, 0, T⟩
      exact cs_ret Try.results74 (lvS E.1) rfl rfl ⟨rfl, E.2⟩
/-- How many bytes a Pmt's body has. -/
def lnRel (wA : World) (n : Nat) (B : Nat → Int) (i t : Value) (wr : World) : Prop := ∃ k : Nat, k ≤ n ∧ i = .int .i64 (k : Int) ∧ t = .int .i64 (B k) ∧ Keeps wA wr
theorem stsB_le {l : List Strm} (h : ∀ s ∈ l, s.info.size ≤ 5000) : (stsB l).length ≤ 5005 * l.length := by
  induction l with
  | nil => exact Nat.le_refl _
  | cons s t ih =>
    have h1 := h s (List.mem_cons_self ..)
    have h2 := ih fun x hx => h x (List.mem_cons_of_mem _ hx)
    show (stB s ++ stsB t).length ≤ _
    rw [List.length_append, stB_length, List.length_cons]; omega
set_option maxHeartbeats 1600000 in
theorem pmtlong_any {x : Pmt} {a : Option Addr} {cap : Nat} (w : World) (h : IsE rowSt w a x.l.length x.l) (hl : x.l.length ≤ 1000) (hs : ∀ s ∈ x.l, s.info.size ≤ 5000) (hi : x.info.size ≤ 5000) :
    Calls Try.prog 90 #[pmtV x a cap] w fun e w' => e = .returned (.int .i64 (((pmtB x).length : Nat) : Int)) ∧ Keeps w w' := by
  have hlen := pmtB_length x
  obtain ⟨pr, ve, cl, inf, l⟩ := x
  simp only at h hl hs hi hlen
  show Calls Try.prog 90 #[.agg #[.int .i64 pr, .int .i64 ve, .int .i64 cl, .string inf, .slice a l.length cap]] w fun e w' => e = .returned (.int .i64 (((pmtB ⟨pr, ve, cl, inf, l⟩).length : Nat) : Int)) ∧ Keeps w w'
  obtain ⟨Z, hZ⟩ : ∃ Z : Int, (((pmtB ⟨pr, ve, cl, inf, l⟩).length : Nat) : Int) = Z := ⟨_, rfl⟩
  have HZ := Lib.hid (show Z = 4 + (inf.size : Int) + (((stsB l).length : Nat) : Int) by rw [← hZ, hlen]; omega)
  rw [hZ]
  obtain ⟨n, hn⟩ : ∃ n, l.length = n := ⟨_, rfl⟩
  rw [hn] at h hl ⊢
  obtain ⟨wA, hA⟩ : ∃ wX, w.alloc (.cells #[.int .i64 pr, .int .i64 ve, .int .i64 cl, .string inf, .slice a n cap] 27) = wX := ⟨_, rfl⟩
  obtain ⟨b, hb⟩ : ∃ b, w.heap.size = b := ⟨_, rfl⟩
  have HA := Lib.hid (CsAns.start (Keeps.refl w) (a := #[.int .i64 pr, .int .i64 ve, .int .i64 cl, .string inf, .slice a n cap]) (by simp) hb hA)
  have HI := Lib.hid (h.keeps HA.out.k)
  have q3 := HA.out.z.cell 3 rfl
  have q4 := HA.out.z.cell 4 rfl
  have HN := Lib.hid hn
  have HSS := Lib.hid hs
  have wr0 := wrapI (a := 4 + (inf.size : Int)) (by omega) (by omega)
  clear h hn hs hZ hlen
  go_enter Try.func90, Try.ntmps90
  go_wp2
  go_loopw [13, 3] (fun i t wr => lnRel wA n (fun k => 4 + (inf.size : Int) + (((stsB (l.take k)).length : Nat) : Int)) i t wr) (fun i _ _ => n - (intOf i).toNat)
  case atStart => exact ⟨0, Nat.zero_le _, rfl, by simp [stsB], Keeps.refl wA⟩
  case round =>
    obtain ⟨k, hk, rfl, ht, hkp⟩ := hrel
    obtain ⟨Y, hY⟩ : ∃ Y : Int, 4 + (inf.size : Int) + (((stsB (l.take k)).length : Nat) : Int) = Y := ⟨_, rfl⟩
    have ht' := ht
    simp only [hY] at ht'
    subst ht'
    have HKP := Lib.hid hkp
    have HY := Lib.hid hY
    clear ht hY hkp hA hb
    by_cases hlt : k < n
    · have hlI : (k : Int) < (n : Int) := by omega
      have hkL : k < l.length := by have := HN.out; omega
      obtain ⟨b1, o1, rfl, _, hc⟩ := (HI.out.keeps HKP.out).get hkL
      obtain ⟨⟨p1, p2, p3⟩, hp⟩ : ∃ q, l[k] = q := ⟨_, rfl⟩
      have hsz := HSS.out _ (List.getElem_mem hkL)
      rw [hp] at hsz hc
      simp only at hsz
      have c0 : wr.cell? ⟨b1, o1 + k * 3, none⟩ = some (.int .i64 p1) := hc 0 _ rfl
      have c1 : wr.cell? ⟨b1, o1 + k * 3 + 1, none⟩ = some (.int .i64 p2) := by rw [Nat.add_assoc]; exact hc 1 _ rfl
      have c2 : wr.cell? ⟨b1, o1 + k * 3 + 2, none⟩ = some (.string p3) := by rw [Nat.add_assoc]; exact hc 2 _ rfl
      have hyb : 0 ≤ Y ∧ Y ≤ 6000000 := by
        have h1 := stsB_le (l := l.take k) (fun s hs => HSS.out s (List.mem_of_mem_take hs))
        rw [List.length_take] at h1
        have := HY.out; omega
      obtain ⟨hy1, hy2⟩ := hyb
      have HE := Lib.hid (show Y + (5 + (p3.size : Int)) = 4 + (inf.size : Int) + (((stsB (l.take (k + 1))).length : Nat) : Int) by
        rw [stsB_snoc hkL, List.length_append, stB_length, hp]
        have := HY.out
        show Y + (5 + (p3.size : Int)) = 4 + (inf.size : Int) + ((((stsB (l.take k)).length + (p3.size + 5) : Nat)) : Int)
        omega)
      have wr1 := wrapI (a := (k : Int) + 1) (by omega) (by omega)
      have wr2 := wrapI (a := 5 + (p3.size : Int)) (by omega) (by omega)
      have wr3 := wrapI (a := Y + (5 + (p3.size : Int))) (by omega) (by omega)
      clear hc hp
      go_wp2
      go_roundw
      case rel => exact ⟨k + 1, hlt, by go_num, by rw [HE.out], HKP.out.alloc _⟩
      case measure => simp [intOf]; omega
    · have hlI : ¬ (k : Int) < (n : Int) := by omega
      have HE := Lib.hid (show Y = Z by rw [← HY.out, HZ.out, show l.take k = l from List.take_of_length_le (by rw [HN.out]; omega)])
      go_wp2
      go_ret
      exact ⟨by rw [HE.out]; rfl, HA.out.k.trans HKP.out⟩
/-- The values of a stream's text, the block of its first byte open. -/
def vsS (bq : Nat) (p1 p2 : Int) (p3 T1 T2 T3 : ByteArray) (γ : Nat) : List Value :=
  [.pointer (some ⟨bq, 0, none⟩), .int .i64 p1, .int .u8 p1, .slice (some ⟨γ, 0, none⟩) 1 1, .string T1, .pointer (some ⟨bq, 1, none⟩), .int .i64 p2, .pointer (some ⟨bq, 2, none⟩), .string p3, pcV p2 p3, .string T2, .string T3]
theorem vsS_a {bq : Nat} {p1 p2 : Int} {p3 T1 T2 T3 : ByteArray} {L : Nat → Bool} {a a' : Nat} (h : L 3 = false) : ∀ j, L j = true → (vsS bq p1 p2 p3 T1 T2 T3 a').getD j undef = (vsS bq p1 p2 p3 T1 T2 T3 a).getD j undef
  | 0, _ => rfl
  | 1, _ => rfl
  | 2, _ => rfl
  | 3, k => by rw [h] at k; cases k
  | 4, _ => rfl
  | 5, _ => rfl
  | 6, _ => rfl
  | 7, _ => rfl
  | 8, _ => rfl
  | 9, _ => rfl
  | 10, _ => rfl
  | 11, _ => rfl
  | n + 12, _ => rfl
structure SR (wX : World) (l : List UInt8) (γ : Nat) (L : Nat → Bool) (W : World) : Prop where
  kp : Keeps wX W
  one : L 3 = true → Blk γ l W ∧ γ < W.heap.size
theorem SR.on {wX W W' : World} {l : List UInt8} {γ i : Nat} {L L' : Nat → Bool} (h : SR wX l γ L W) (hi : 3 ≠ i) (k : ∀ j, L' j = true ↔ (L j = true ∨ j = i)) (e : Keeps W W') : SR wX l γ L' W' :=
  ⟨h.kp.trans e, fun x => by
    have y := h.one (((k 3).1 x).resolve_right hi)
    exact ⟨y.1.below e, Nat.lt_of_lt_of_le y.2 (Below.size e)⟩⟩
theorem SR.same {wX W : World} {l : List UInt8} {γ i : Nat} {L L' : Nat → Bool} (h : SR wX l γ L W) (hi : 3 ≠ i) (k : ∀ j, L' j = true ↔ (L j = true ∨ j = i)) : SR wX l γ L' W := h.on hi k (Keeps.refl W)
set_option maxHeartbeats 3200000 in
theorem pmtcar_any {x : Pmt} {a : Option Addr} {cap : Nat} (w : World) (h : IsE rowSt w a x.l.length x.l) (hok : PmtOk x) :
    Calls Try.prog 88 #[pmtV x a cap] w fun e w' => e = .returned (secV (pmtS x)) ∧ Keeps w w' := by
  have hlen := pmtB_length x
  have hsts := hok.sts
  have hmem := fun s hs => stsB_mem (l := x.l) (s := s) hs
  obtain ⟨_, _, hcl, _, _, hbd⟩ := hok
  rw [hlen] at hbd
  obtain ⟨pr, ve, cl, inf, l⟩ := x
  simp only at h hlen hsts hcl hbd hmem
  unfold pmtS
  show Calls Try.prog 88 #[.agg #[.int .i64 pr, .int .i64 ve, .int .i64 cl, .string inf, .slice a l.length cap]] w fun e w' => e = .returned (secV ⟨2, false, pr, ve, true, 0, 0, st (pmtB ⟨pr, ve, cl, inf, l⟩)⟩) ∧ Keeps w w'
  obtain ⟨cl1, cl2⟩ := hcl
  have HP := Lib.hid (fun W => pstext_any cl inf cl1 cl2 (by omega) W)
  obtain ⟨T0, hT0⟩ : ∃ T, st (b2 (cl.toNat + 57344) ++ (b2 (inf.size + 61440) ++ ls inf)) = T := ⟨_, rfl⟩
  simp only [hT0] at HP
  have HH := Lib.hid (show pmtB ⟨pr, ve, cl, inf, l⟩ = ls T0 ++ stsB l by
    rw [← hT0, ls_st]; unfold pmtB; simp only [List.append_assoc])
  have HT0 := Lib.hid (show T0.size ≤ 1012 by
    rw [ls_size, ← hT0, ls_st, List.length_append, List.length_append, b2_length, b2_length, ← ls_size]; omega)
  have HSL := Lib.hid (show (stsB l).length ≤ 1012 by omega)
  obtain ⟨T, hT⟩ : ∃ T, st (pmtB ⟨pr, ve, cl, inf, l⟩) = T := ⟨_, rfl⟩
  rw [hT]
  have HT := Lib.hid (show st (ls T0 ++ stsB l) = T by rw [← HH.out, hT])
  have HST := Lib.hid hsts
  obtain ⟨n, hn⟩ : ∃ n, l.length = n := ⟨_, rfl⟩
  have hnb : n ≤ 1000 := by
    have h5 : ∀ m : List Strm, 5 * m.length ≤ (stsB m).length := fun m => by
      induction m with
      | nil => exact Nat.le_refl _
      | cons s t ih =>
        show _ ≤ (stB s ++ stsB t).length
        rw [List.length_append, stB_length, List.length_cons]; omega
    have := h5 l
    have := HSL.out
    omega
  rw [hn] at h ⊢
  obtain ⟨wA, hA⟩ : ∃ wX, w.alloc (.cells #[.int .i64 pr, .int .i64 ve, .int .i64 cl, .string inf, .slice a n cap] 27) = wX := ⟨_, rfl⟩
  obtain ⟨b, hb⟩ : ∃ b, w.heap.size = b := ⟨_, rfl⟩
  have HA := Lib.hid (CsAns.start (Keeps.refl w) (a := #[.int .i64 pr, .int .i64 ve, .int .i64 cl, .string inf, .slice a n cap]) (by simp) hb hA)
  have hz1 : wA.heap.size = b + 1 := by rw [← hA, World.size_alloc, hb]
  obtain ⟨wB, hB⟩ : ∃ wX, wA.alloc (.cells #[.int .i64 0, .bool false, .int .i64 0, .int .i64 0, .bool false, .int .i64 0, .int .i64 0, .string ⟨#[]⟩] 65) = wX := ⟨_, rfl⟩
  have kB : Keeps wA wB := by rw [← hB]; exact (Keeps.refl wA).alloc _
  have AS := Lib.hid (Ans.start HA.out.k hz1 hB)
  have HZ := Lib.hid (HA.out.keeps kB)
  have hz2 : wB.heap.size = b + 2 := by rw [← hB, World.size_alloc, hz1]
  have HB0 := Lib.hid hz2
  obtain ⟨wC, hC⟩ : ∃ wX, wB.alloc (.cells #[.pointer none, .slice none 0 0] 144) = wX := ⟨_, rfl⟩
  have kC : Keeps wB wC := by rw [← hC]; exact (Keeps.refl wB).alloc _
  have HIC := Lib.hid (show IsBd (b + 2) (b + 2) [] wC by rw [← hC, ← hz2]; exact IsBd.new wB)
  have HKC := Lib.hid kC
  have HI := Lib.hid (h.keeps HZ.out.k)
  have HMC := Lib.hid (show b + 2 ≤ wC.heap.size by rw [← hz2]; exact Below.size kC)
  have q2 := (HZ.out.z.keeps kC).cell 2 rfl
  have q3 := (HZ.out.z.keeps kC).cell 3 rfl
  have HN := Lib.hid hn
  clear h hn kB kC hT hT0 hlen hsts hbd hmem
  go_enter Try.func88, Try.ntmps88
  go_wp2_with (first | (go_at_call 91; refine (HP.out _).mono ?_; rintro _ w3 ⟨rfl, k3⟩; have HI3 := Lib.hid (HIC.out.keeps k3); have HK3 := Lib.hid (HKC.out.trans k3); have HM3 := Lib.hid (Nat.le_trans HMC.out (Below.size k3)); clear k3) | (go_at_call 76; refine (wstr_any (b + 2) (b + 2) _ T0 w3 HI3.out (by simp only [List.length_nil]; have := HT0.out; omega) HM3.out).mono ?_; rintro _ w4 ⟨rfl, hI4, k4⟩; have HI4 := Lib.hid hI4; have HK4 := Lib.hid (HK3.out.on HB0.out k4); have r4 := (HZ.out.z.keeps HK4.out).cell 4 rfl; clear hI4 k4))
  go_loopw [16] (fun i wr => carRel wB (b + 2) n (fun k => [] ++ ls T0 ++ stsB (l.take k)) i wr) (fun i _ => n - (intOf i).toNat)
  case atStart => exact ⟨0, Nat.zero_le _, rfl, by show IsBd _ _ ([] ++ ls T0 ++ []) _; rw [List.append_nil]; exact HI4.out, HK4.out⟩
  case round =>
    obtain ⟨k, hk, rfl, hI, hkp⟩ := hrel
    have HKP := Lib.hid hkp
    have HIB := Lib.hid (show IsBd (b + 2) (b + 2) ([] ++ ls T0 ++ stsB (l.take k)) wr from hI)
    have HM := Lib.hid (show b + 2 ≤ wr.heap.size by rw [← HB0.out]; exact Below.size hkp)
    have s0 := (HZ.out.z.keeps hkp).cell 0 rfl
    have s1 := (HZ.out.z.keeps hkp).cell 1 rfl
    clear q2 q3 r4 hI hA hb hz1 hB hz2 hC
    by_cases hlt : k < n
    · have hlI : (k : Int) < (n : Int) := by omega
      have hkL : k < l.length := by have := HN.out; omega
      obtain ⟨b1, o1, rfl, _, hc⟩ := (HI.out.keeps HKP.out).get hkL
      obtain ⟨⟨p1, p2, p3⟩, hp⟩ : ∃ q, l[k] = q := ⟨_, rfl⟩
      have hq := HST.out _ (List.getElem_mem hkL)
      rw [hp] at hq hc
      obtain ⟨⟨k1, k2⟩, ⟨k3, k4⟩, k5⟩ := hq
      simp only at k1 k2 k3 k4 k5
      have c0 : wr.cell? ⟨b1, o1 + k * 3, none⟩ = some (.int .i64 p1) := hc 0 _ rfl
      have c1 : wr.cell? ⟨b1, o1 + k * 3 + 1, none⟩ = some (.int .i64 p2) := by rw [Nat.add_assoc]; exact hc 1 _ rfl
      have c2 : wr.cell? ⟨b1, o1 + k * 3 + 2, none⟩ = some (.string p3) := by rw [Nat.add_assoc]; exact hc 2 _ rfl
      have C2 := Lib.hid (fun W => pstext_any p2 p3 k3 k4 k5 W)
      obtain ⟨T1, hT1⟩ : ∃ T, st [u8 p1.toNat] = T := ⟨_, rfl⟩
      obtain ⟨T2, hT2⟩ : ∃ T, st (b2 (p2.toNat + 57344) ++ (b2 (p3.size + 61440) ++ ls p3)) = T := ⟨_, rfl⟩
      obtain ⟨T3, hT3⟩ : ∃ T, T1 ++ T2 = T := ⟨_, rfl⟩
      have HC1 := Lib.hid (fun (g : Nat) W (h : Blk g [u8 p1.toNat] W) => show (convert 46 9 (.slice (some ⟨g, 0, none⟩) 1 1)).run Try.prog W = .ok (.string T1) W by rw [← hT1]; exact h.whole 1 rfl)
      have HLT := Lib.hid (fun (W : World) => show Blk W.heap.size [u8 p1.toNat] (W.alloc (.cells #[.int .u8 p1] 5)) by
        have := Blk.lit W [u8 p1.toNat] 5
        rwa [show (([u8 p1.toNat] : List UInt8).map B).toArray = #[.int .u8 p1] by simp only [List.map_cons, List.map_nil]; rw [B_u8 (x := p1) (by omega) (by omega)]] at this)
      have z1 : T1.size = 1 := by rw [← hT1, st_size]; rfl
      have z2 : T2.size = p3.size + 4 := by rw [← hT2, st_size, List.length_append, List.length_append, b2_length, b2_length, ← ls_size]; omega
      have z4 : ¬ 9223372036854775807 < 1 + (p3.size + 4) := by omega
      have HZ3 := Lib.hid (show T3.size = p3.size + 5 by rw [← hT3, ByteArray.size_append, z1, z2]; omega)
      have HS := Lib.hid (show ([] ++ ls T0 ++ stsB (l.take k)) ++ ls T3 = [] ++ ls T0 ++ stsB (l.take (k + 1)) by
        rw [stsB_snoc hkL, hp, ← hT3, ← hT1, ← hT2, st_append, ls_st, List.append_assoc]; rfl)
      have HL := Lib.hid (show ([] ++ ls T0 ++ stsB (l.take k)).length + T3.size ≤ 1000000000 by
        have h1 := stsB_le (l := l.take k) (fun s hs => by have := (HST.out s (List.mem_of_mem_take hs)).2.2; omega)
        rw [List.length_take] at h1
        have := HT0.out
        have := HZ3.out
        rw [List.nil_append, List.length_append, ← ls_size]
        omega)
      have H3 := Lib.hid hT3
      simp only [hT2] at C2
      have w8 : IntKind.u8.wrap p1 = p1 := by rw [IntKind.wrap_u8]; omega
      have wr2 := wrapI (a := (k : Int) + 1) (by omega) (by omega)
      clear hc hp hT1 hT2 hT3
      go_wp2
      obtain ⟨bq, hbq⟩ : ∃ bq, wr.heap.size = bq := ⟨_, rfl⟩
      obtain ⟨wX, hX⟩ : ∃ wX, wr.alloc (.cells #[.int .i64 p1, .int .i64 p2, .string p3] 50) = wX := ⟨_, rfl⟩
      have HQ := Lib.hid (show CsAt bq [.int .i64 p1, .int .i64 p2, .string p3] wX by rw [← hX, ← hbq]; exact CsAt.made wr #[.int .i64 p1, .int .i64 p2, .string p3] _ (by simp))
      have KX := Lib.hid (show Keeps wr wX by rw [← hX]; exact (Keeps.refl wr).alloc _)
      rw [hX, hbq]
      clear hX
      refine wp_draw_ht (Γ := Nat) 12 (by kernel_rfl) (vsS bq p1 p2 p3 T1 T2 T3) (fun γ => SR wX [u8 p1.toNat] γ) rfl (by kernel_rfl) (by kernel_rfl) ?fin1 ?hfin1 0 ⟨(Keeps.refl wX).eqv (Eqv.drew wX), (fun x => by cases x)⟩ ?each1 ?hend1
      case hfin1 => intro γ; simp [vsS, seqA, dstOf, Act.put]; rfl
      case each1 =>
        refine ⟨?_, ?_, ?_, ?_, ?_, ?_, ?_, ?_, ?_, ?_, ?_, ?_, trivial⟩
        all_goals intro γ L w5 h0 hd hsh hw
        all_goals unfold Does
        all_goals try simp only [Nat.zero_add, Nat.reduceAdd] at h0
        all_goals have e0 := (HQ.out.keeps hw.kp).cell 0 rfl
        all_goals have e1 := (HQ.out.keeps hw.kp).cell 1 rfl
        all_goals have e2 := (HQ.out.keeps hw.kp).cell 2 rfl
        rotate_left 3
        · go_simp
          have ka : Keeps w5 (w5.alloc (.cells #[.int .u8 p1] 5)) := (Keeps.refl w5).alloc _
          exact ⟨w5.heap.size, vsS_a h0, fun _ => rfl, fun L' k => ⟨hw.kp.trans ka, fun _ => ⟨HLT.out w5, by simp⟩⟩⟩
        · have hcv := HC1.out γ w5 (hw.one (hd 3 (by kernel_rfl))).1
          go_simp
          exact Goes.on (fun _ => rfl) fun L' k => hw.same (by decide) k
        rotate_left 5
        · go_simp
          refine (C2.out w5).mono ?_
          rintro e w6 ⟨rfl, k6⟩
          exact ⟨_, rfl, Goes.on (fun _ => rfl) fun L' k => hw.on (by decide) k k6⟩
        · have h3 := H3.out
          go_simp
          exact Goes.on (fun _ => rfl) fun L' k => hw.same (by decide) k
        all_goals (go_simp; exact Goes.on (fun _ => rfl) fun L' k => hw.same (by decide) k)
      case hend1 =>
      intro γ L w8 hL hw
      have kw8 := KX.out.trans hw.kp
      have HK8 := Lib.hid (HKP.out.trans kw8)
      have HI8 := Lib.hid (HIB.out.keeps kw8)
      have HM8 := Lib.hid (Nat.le_trans HM.out (Below.size kw8))
      simp only [List.drop_succ_cons, List.drop_zero]
      clear hw hL kw8 s0 s1
      go_wp2_with (go_at_call 76; refine (wstr_any (b + 2) (b + 2) _ T3 w8 HI8.out HL.out HM8.out).mono ?_; rintro _ w9 ⟨rfl, hI9, k9⟩; have HI9 := Lib.hid hI9; have HK9 := Lib.hid (HK8.out.on HB0.out k9); clear hI9 k9)
      go_roundw
      case rel => exact ⟨k + 1, hlt, by go_num, by show IsBd _ _ ([] ++ ls T0 ++ stsB (l.take (k + 1))) _; rw [← HS.out]; exact HI9.out, HK9.out⟩
      case measure => simp [intOf]; omega
    · have hlI : ¬ (k : Int) < (n : Int) := by omega
      obtain rfl : k = n := by omega
      have HIT := Lib.hid (show IsBd (b + 2) (b + 2) (ls T0 ++ stsB l) wr by have := HIB.out; rw [show l.take k = l from List.take_of_length_le (by rw [HN.out]; exact Nat.le_refl _)] at this; exact this)
      have HCC := Lib.hid (fun W => pscarrier_any 2 pr ve T W)
      go_wp2
      refine wp_draw_tail 6 (by kernel_rfl)
        [.pointer (some ⟨b, 0, none⟩), .int .i64 pr, .pointer (some ⟨b, 1, none⟩), .int .i64 ve, .string T, secV ⟨2, false, pr, ve, true, 0, 0, T⟩]
        (Once 4 (Eqv wr) (Keeps wB)) rfl (by kernel_rfl) (by kernel_rfl) (fin := ?fin2) ?hfin2 (Once.start (Eqv.drew wr)) ?each2 ?hend2
      case hfin2 => simp [seqA, dstOf, Act.put]; rfl
      case each2 =>
        refine ⟨?_, ?_, ?_, ?_, ?_, ?_, trivial⟩
        all_goals intro L w5 h0 hd hsh hw
        all_goals unfold Does
        all_goals have kw := once_kb HKP.out hw
        all_goals have e0 := (HZ.out.z.keeps kw).cell 0 rfl
        all_goals have e1 := (HZ.out.z.keeps kw).cell 1 rfl
        rotate_left 4
        · have he := hw.1 h0
          go_simp
          refine (bstr_any (b + 2) (b + 2) _ w5 (HIT.out.keeps ((Keeps.refl wr).eqv he)) (by rw [he.size]; exact HM.out)).mono ?_
          rintro e w6 ⟨rfl, k6⟩
          exact ⟨_, rfl, by rw [← HT.out], fun L' k => Once.done k (kw.on HB0.out k6)⟩
        · have h4 := hd 4 (by kernel_rfl)
          go_simp
          refine (HCC.out w5).mono ?_
          rintro e w6 ⟨rfl, k6⟩
          exact ⟨_, rfl, rfl, fun L' k => ⟨fun x => (by rw [(k 4).2 (.inl h4)] at x; cases x), fun _ => kw.trans k6⟩⟩
        all_goals (go_simp; exact fun L' k => hw.same (by decide) k)
      case hend2 =>
      intro L w8 hL hw
      have kw := hw.2 (hL 4 (by decide))
      have A8 := Lib.hid (AS.out.keeps kw)
      simp only [List.drop_succ_cons, List.drop_zero]
      clear hw hL kw s0 s1
      go_wp2_with (refine wpList_store_mid rfl 65 _ _ rfl (b + 1) 0 (secC ⟨2, false, pr, ve, true, 0, 0, T⟩).toArray rfl rfl A8.out.z.there (by kernel_rfl) (all_oneCell_toArray (secC_one _)) ?_)
      have E := A8.out.ends ⟨2, false, pr, ve, true, 0, 0, T⟩
      exact cs_ret Try.results88 (lvS E.1) rfl rfl ⟨rfl, E.2⟩
end Go.Proofs.Ytebfihghfkcicaa
