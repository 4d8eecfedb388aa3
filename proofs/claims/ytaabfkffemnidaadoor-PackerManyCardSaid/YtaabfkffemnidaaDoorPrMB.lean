/-
  What Many and Bytes of package packer answer (Bytes where the table of widths lies as the program's text lays it). The memory that was there stays.
-/
import Derived.Test.YtaabfkffemnidaaDoorPkB
import Derived.Test.YtaabfkffemnidaaDoorPrD
namespace Go.Proofs.YtaabfkffemnidaaDoor
open Go.RowKit Gf Pk Pr
set_option maxRecDepth 100000
set_option linter.unusedSimpArgs false
abbrev cuC (l : Nat) (v : Value) : List Value := [.int .i64 (l : Int), v]
theorem wp_ldCu {ops : Array Oper} {rest : List Oper} {o : Oper} {a : Act} {w : World} {Q : Exit → Act → World → Prop} {b : Nat} {l : Nat} {ad : Option Addr} {n c : Nat} (h : w.rangeAt b 0 [.int .i64 (l : Int), .slice ad n c]) (hgd : o.guard = none) (u : Operand) (ho : o.op = .load 54 u)
    (hx : a.eval u = .pointer (some ⟨b, 0, none⟩)) (k : wpList Tryd.prog ops Q rest (a.put o.dst (.agg #[.int .i64 (l : Int), .slice ad n c])) w) : wpList Tryd.prog ops Q (o :: rest) a w :=
  wpList_load_mid hgd _ u ho b 0 hx [.int .i64 (l : Int), .slice ad n c] _ h Tryd.underlying54 rfl (by kernel_rfl) k
theorem zs_toNat {m : List Int} (h : ∀ x ∈ m, 12 ≤ x ∧ x ≤ 4096) : zs (m.map Int.toNat) = m := by
  unfold zs
  rw [List.map_map]
  refine (List.map_congr_left fun x hx => ?_).trans (List.map_id m)
  show ((x.toNat : Nat) : Int) = x
  have := (h x hx).1; omega
/-- A copy of a cut. -/
theorem CutAt.copy {b l : Nat} {ns : List Nat} {a : Option Addr} {cap : Nat} {w : World} (h : CutAt b l ns a cap w) (T : TypeId) : CutAt w.heap.size l ns a cap (w.alloc (.cells #[.int .i64 (l : Int), .slice a ns.length cap] T)) :=
  ⟨CsAt.made w #[.int .i64 (l : Int), .slice a ns.length cap] T (by simp), h.r.keeps ((Keeps.refl w).alloc _), h.n, fun e p hp => Nat.lt_trans (h.d e p hp) h.c.old⟩
structure MyK (w : World) (M : Nat) (bc l : Nat) (ns : List Nat) (a : Option Addr) (cap k : Nat) (wr : World) : Prop where
  c : CutAt bc l ns a cap wr
  f : Fits (l + ns.sum) l ns
  m : k + cn l ns = M
  o : w.heap.size ≤ bc
  k : Keeps w wr
  z : ns.length ≤ 1000
def pmyRel (w : World) (M : Nat) (many c : Value) (wr : World) : Prop := ∃ (bc l : Nat) (ns : List Nat) (a : Option Addr) (cap k : Nat), many = .int .i64 (k : Int) ∧ c = .pointer (some ⟨bc, 0, none⟩) ∧ MyK w M bc l ns a cap k wr
theorem mnO_no {m : List Int} {k : Nat} (h : k < m.length) (e : ¬ (12 ≤ m[k] ∧ m[k] ≤ 4096)) : mnO m = 0 := by
  unfold mnO; rw [if_neg fun x => e (x _ (List.getElem_mem h))]
theorem cn_le {l : Nat} {ns : List Nat} (h : Fits (l + ns.sum) l ns) (hn : ns.length ≤ 1000) (hs : l + ns.sum ≤ 10000000) : cn l ns ≤ 100000 := by
  have := (cnt_bound (l + ns.sum) (l + ns.sum) l ns (Nat.le_refl _) h).2
  unfold phi at this
  unfold cn
  split at this <;> omega
theorem sum_le : ∀ {ns : List Nat}, (∀ n ∈ ns, 1 ≤ n ∧ n ≤ 4096) → ns.sum ≤ 4096 * ns.length
  | [], _ => Nat.le_refl _
  | x :: t, h => by
    have h1 := h x (List.mem_cons_self ..)
    have h2 := sum_le fun n hn => h n (List.mem_cons_of_mem _ hn)
    rw [List.sum_cons, List.length_cons]; omega
set_option maxHeartbeats 6400000 in
theorem prmany_any {a : Option Addr} {len cap : Nat} {m : List Int} (w : World) (h : IsE rowZ w a len m) (hlc : len ≤ cap) (hn : m.length ≤ 1000) : Calls Tryd.prog 11 #[.slice a len cap] w fun e w' => e = .returned (.int .i64 (mnO m)) ∧ Keeps w w' := by
  obtain ⟨N, hN⟩ : ∃ N, m.length = N := ⟨_, rfl⟩
  have hll : len = N := by rw [← hN]; exact h.1
  subst hll
  have HI := Lib.hid h
  have HN := Lib.hid hN
  have HLC := Lib.hid hlc
  rw [hN] at hn
  clear h hN hlc
  go_enter Tryd.func11, Tryd.ntmps11
  go_wp2
  go_loop [9] (fun i => ∃ k : Nat, k ≤ len ∧ i = .int .i64 (k : Int) ∧ ∀ x ∈ m.take k, 12 ≤ x ∧ x ≤ 4096) (fun i => len - (intOf i).toNat)
  case atStart => exact ⟨0, Nat.zero_le _, rfl, by simp⟩
  case round =>
    obtain ⟨k, hk, rfl, hall⟩ := hrel
    have HALL := Lib.hid hall
    clear hall
    by_cases hlt : k < len
    · have hlI : (k : Int) < (len : Int) := by omega
      have hkL : k < m.length := by rw [HN.out]; exact hlt
      obtain ⟨b, off, rfl, hb, hc⟩ := HI.out.get hkL
      have hc1 : w.cell? ⟨b, off + k, none⟩ = some (.int .i64 m[k]) := by
        have := hc 0 (.int .i64 m[k]) rfl
        rwa [show off + (k * rowZ.sz + 0) = off + k by show off + (k * 1 + 0) = off + k; omega] at this
      have HNO := Lib.hid (mnO_no hkL)
      have HNX := Lib.hid (show 12 ≤ m[k] ∧ m[k] ≤ 4096 → ∀ x ∈ m.take (k + 1), 12 ≤ x ∧ x ≤ 4096 from fun h x hx => by
        rw [List.take_add_one, List.getElem?_eq_getElem hkL] at hx
        rcases List.mem_append.1 hx with y | y
        · exact HALL.out x y
        · rw [List.mem_singleton.1 y]; exact h)
      obtain ⟨x, hx⟩ : ∃ x, m[k] = x := ⟨_, rfl⟩
      rw [hx] at hc1 HNO HNX
      have wr1 := wrapI (a := (k : Int) + 1) (by omega) (by omega)
      clear hc hb hx
      by_cases h1 : x < 12
      · have HE := Lib.hid (HNO.out (by omega))
        go_wp2
        go_ret
        exact ⟨by rw [HE.out]; rfl, Keeps.refl w⟩
      by_cases h2 : 4096 < x
      · have HE := Lib.hid (HNO.out (by omega))
        go_wp2
        go_ret
        exact ⟨by rw [HE.out]; rfl, Keeps.refl w⟩
      replace HNX := Lib.hid (HNX.out (by omega))
      go_wp2
      go_round
      case rel => exact ⟨k + 1, by omega, by go_num, HNX.out⟩
      case measure => simp [intOf]; omega
    · have hlI : ¬ (k : Int) < (len : Int) := by omega
      have hall : ∀ x ∈ m, 12 ≤ x ∧ x ≤ 4096 := by
        have : m.take k = m := List.take_of_length_le (by rw [HN.out]; omega)
        rw [← this]; exact HALL.out
      obtain ⟨M, hM⟩ : ∃ M, manyN (m.map Int.toNat) = M := ⟨_, rfl⟩
      have HE := Lib.hid (show mnO m = (M : Int) by rw [mnO_ok hall, hM])
      have hml : (m.map Int.toNat).length = len := by rw [List.length_map]; exact HN.out
      have hfi : ∀ n ∈ m.map Int.toNat, 1 ≤ n ∧ n ≤ 4096 := fun n hn => by
        obtain ⟨x, hx, rfl⟩ := List.mem_map.1 hn
        have := hall x hx; omega
      have hff : Fits (0 + (m.map Int.toNat).sum) 0 (m.map Int.toNat) := ⟨rfl, Nat.zero_le _, hfi⟩
      have hsl := sum_le hfi
      have hMb : M ≤ 100000 := by rw [← hM, manyN_cn]; exact cn_le hff (by rw [hml]; exact hn) (by omega)
      have hrow : IsE rowZ w a (m.map Int.toNat).length (zs (m.map Int.toNat)) := by rw [zs_toNat hall, hml]; exact HI.out
      have HCC := Lib.hid (show pmyRel w M (.int .i64 0) (.pointer (some ⟨w.heap.size, 0, none⟩)) (w.alloc (.cells #[.int .i64 0, .slice a len cap] 54)) from
        ⟨w.heap.size, 0, m.map Int.toNat, a, cap, 0, rfl, rfl, ⟨⟨by rw [hml]; exact CsAt.made w #[.int .i64 0, .slice a len cap] _ (by simp), hrow.keeps ((Keeps.refl w).alloc _), by rw [hml]; exact HLC.out, fun hne p hp => by
          have h0 : 0 < m.length := List.length_pos_iff.2 fun e => hne (by rw [e]; rfl)
          obtain ⟨b, off, ha, hb, _⟩ := HI.out.get (i := 0) h0
          rw [ha] at hp; cases hp; exact hb⟩, hff, by rw [← hM, manyN_cn, Nat.zero_add], Nat.le_refl _, (Keeps.refl w).alloc _, by rw [hml]; exact hn⟩⟩)
      clear hall hM hml hfi hff hsl hrow
      go_wp2
      go_loopw [5, 6] (fun many c wr => pmyRel w M many c wr) (fun many _ _ => M - (intOf many).toNat)
      case atStart => exact HCC.out
      case round =>
        obtain ⟨bc, l, ns, ad, cap', q, rfl, rfl, hK⟩ := hrel
        have HK := Lib.hid hK
        have HEN := Lib.hid (prended_any wr hK.c)
        have hq := hK.m
        by_cases hd : l + ns.length = 0
        · rw [decide_eq_true hd] at HEN
          have hns : ns = [] := List.length_eq_zero_iff.1 (by omega)
          have hl0 : l = 0 := by omega
          subst hns hl0
          rw [cn_zero] at hq
          clear hK hd
          go_wp2_with (go_at_call 18; refine HEN.out.mono ?_; rintro _ w2 ⟨rfl, rfl⟩)
          go_ret
          exact ⟨by rw [HE.out]; show _ = Ending.returned (.int .i64 (M : Int)); rw [show M = q by omega]; rfl, HK.out.k⟩
        · rw [decide_eq_false hd] at HEN
          have hne : l + ns.sum ≠ 0 := fun e => by
            by_cases hns : ns = []
            · subst hns; have : ([] : List Nat).sum = 0 := rfl; simp only [List.length_nil] at hd; omega
            · have := sum_pos hK.f.2.2 hns; omega
          obtain ⟨s1, s2, s3⟩ := cn_step hK.f hne
          have hcc := hK.c.copy 54
          have HNX := Lib.hid (prnext_any wr.heap.size l _ hK.f.2.1 hK.f.2.2 hK.z hcc)
          unfold NxPost at HNX
          have hqM : q < M := by omega
          have wr1 := wrapI (a := (q : Int) + 1) (by omega) (by omega)
          have HS1 := Lib.hid s1
          have HS2 := Lib.hid s2
          have HQ := Lib.hid hq
          have hal : (aft l ns).2.length ≤ 1000 := by
            refine Nat.le_trans ?_ hK.z
            by_cases k : 183 ≤ l
            · rw [(shr_mid k).2]; exact Nat.le_refl _
            by_cases e : ns = []
            · subst e; rw [(shr_end k).2]; exact Nat.le_refl _
            · rw [(shr_start k e).2]; exact eat_le _ _
          have HAL := Lib.hid hal
          have HWS := Lib.hid (show w.heap.size ≤ wr.heap.size from Below.size hK.k)
          clear hK hd hne s1 s2 s3 hcc hq hal
          go_wp2_with (first | (go_at_call 18; refine HEN.out.mono ?_; rintro _ w2 ⟨rfl, rfl⟩) | (refine wp_ldCu (b := bc) HK.out.c.c.r rfl _ rfl rfl ?_) | (go_at_call 19; refine HNX.out.mono ?_; rintro _ w2 ⟨rfl, a2, cap2, hc2, hf2⟩; have HC2 := Lib.hid hc2; have HF2 := Lib.hid hf2; clear hc2 hf2))
          go_roundw
          case rel => exact ⟨wr.heap.size, _, _, a2, cap2, q + 1, by go_num, rfl, ⟨HC2.out, HS2.out, by rw [HS1.out] at HQ; have := HQ.out; omega, HWS.out, HF2.out.keeps (HK.out.k.alloc _) (fun k e => by rw [e]; exact HWS.out), HAL.out⟩⟩
          case measure => simp [intOf]; omega
theorem byE_take {l : List Pkt} {k : Nat} (h : ∀ p ∈ l.take k, ckP p = 0) (hk : k < l.length) (he : ckP l[k] ≠ 0) : byO l = ([], ckP l[k]) := by
  have : byE l = ckP l[k] := by
    induction l generalizing k with
    | nil => cases hk
    | cons s t ih =>
      cases k with
      | zero => show (if ckP s ≠ 0 then ckP s else byE t) = _; rw [if_pos (show ckP s ≠ 0 from he)]; rfl
      | succ k =>
        show (if ckP s ≠ 0 then ckP s else byE t) = _
        rw [if_neg (fun x => x (h s (by rw [List.take_succ_cons]; exact List.mem_cons_self ..)))]
        exact ih (fun x hx => h x (by rw [List.take_succ_cons]; exact List.mem_cons_of_mem _ hx)) (by simpa using hk) he
  unfold byO; rw [this, if_neg he]
def pbyRel (w : World) (bb : Nat) (l : List Pkt) (i : Value) (wr : World) : Prop := ∃ k : Nat, k ≤ l.length ∧ i = .int .i64 (k : Int) ∧ (∀ p ∈ l.take k, ckP p = 0) ∧ IsBd bb bb ((l.take k).map bts).flatten wr ∧ Keeps w wr
def ByPost (w : World) (q : List UInt8 × Int) (e : Ending) (w' : World) : Prop := e = .returned (.tuple #[.string (st q.1), .int .i64 q.2]) ∧ Keeps w w'
theorem by_bound {l : List Pkt} (h : ∀ p ∈ l, ckP p = 0) : (l.map bts).flatten.length = 188 * l.length := bts_all h
set_option maxHeartbeats 6400000 in
theorem prbytes_any {a : Option Addr} {len cap : Nat} {l : List Pkt} (w : World) (hW : Wd w) (h : IsE pktT w a len l) (hn : l.length ≤ 100000) (hz : ∀ p ∈ l, p.body.size ≤ 1000000) :
    Calls Tryd.prog 9 #[.slice a len cap] w (ByPost w (byO l)) := by
  obtain ⟨N, hN⟩ : ∃ N, l.length = N := ⟨_, rfl⟩
  have hll : len = N := by rw [← hN]; exact h.1
  subst hll
  have HI := Lib.hid h
  have HN := Lib.hid hN
  have HZ := Lib.hid hz
  have HWD := Lib.hid hW
  rw [hN] at hn
  have HEC := Lib.hid (fun p (hp : p.body.size ≤ 1000000) W (k : Keeps w W) => pkencode_any p W (hW.keeps k) hp)
  clear h hN hz hW
  go_enter Tryd.func9, Tryd.ntmps9
  go_wp2
  obtain ⟨bb, hb⟩ : ∃ b, w.heap.size = b := ⟨_, rfl⟩
  have hB := IsBd.new w
  have hkA := (Keeps.refl w).alloc (.cells #[.pointer none, .slice none 0 0] 46)
  obtain ⟨wA, hwA⟩ : ∃ wA, w.alloc (.cells #[.pointer none, .slice none 0 0] 46) = wA := ⟨_, rfl⟩
  rw [hwA] at hB hkA
  rw [hb] at hB
  rw [hwA, hb]
  have HB := Lib.hid hb
  have HBD := Lib.hid hB
  have HKA := Lib.hid hkA
  clear hwA hB hkA hb
  go_loopw [11] (fun i wr => pbyRel w bb l i wr) (fun i _ => len - (intOf i).toNat)
  case atStart => exact ⟨0, Nat.zero_le _, rfl, by simp, HBD.out, HKA.out⟩
  case round =>
    obtain ⟨k, hk, rfl, hall, hbd, hkp⟩ := hrel
    rw [HN.out] at hk
    have HALL := Lib.hid hall
    have HBK := Lib.hid hbd
    have HKP := Lib.hid hkp
    have HMB := Lib.hid (show bb ≤ wr.heap.size by rw [← HB.out]; exact Below.size hkp)
    clear hall hbd hkp
    by_cases hlt : k < len
    · have hlI : (k : Int) < (len : Int) := by omega
      have hkL : k < l.length := by rw [HN.out]; exact hlt
      obtain ⟨b1, off1, rfl, hb1, hr1⟩ := (HI.out.keeps HKP.out).range hkL
      have HR := Lib.hid (show wr.rangeAt b1 (off1 + k * 5) (pkC l[k]) from hr1)
      have HNO := Lib.hid (byE_take HALL.out hkL)
      have HBL := Lib.hid (by_bound HALL.out)
      have HNX := Lib.hid (show ckP l[k] = 0 → ∀ s ∈ l.take (k + 1), ckP s = 0 from fun h s hs => by
        rw [List.take_add_one, List.getElem?_eq_getElem hkL] at hs
        rcases List.mem_append.1 hs with y | y
        · exact HALL.out s y
        · rw [List.mem_singleton.1 y]; exact h)
      have HFL := Lib.hid (show ((l.take (k + 1)).map bts).flatten = ((l.take k).map bts).flatten ++ bts l[k] by
        rw [List.take_add_one, List.getElem?_eq_getElem hkL, List.map_append, List.flatten_append]; simp)
      have HE1 := Lib.hid (fun W (q : Keeps w W) => HEC.out l[k] (HZ.out _ (List.getElem_mem hkL)) W q)
      obtain ⟨p, hp⟩ : ∃ p, l[k] = p := ⟨_, rfl⟩
      rw [hp] at HR HNO HNX HFL HE1
      have wr2 := wrapI (a := (k : Int) + 1) (by omega) (by omega)
      have HTL := Lib.hid (show ((l.take k).map bts).flatten.length ≤ 18800000 by rw [HBL.out, List.length_take]; omega)
      obtain ⟨c, hc⟩ : ∃ c, ckP p = c := ⟨_, rfl⟩
      by_cases hc0 : c = 0
      · subst hc0
        rw [ecP_ok hc] at HE1
        have hbz := bts_length (ckP_good hc).2
        replace HNX := Lib.hid (HNX.out hc)
        obtain ⟨S, hS⟩ : ∃ S, st (bts p) = S := ⟨_, rfl⟩
        have HLS := Lib.hid (show ls S = bts p by rw [← hS, ls_st])
        have HSZ := Lib.hid (show S.size = 188 by rw [← hS, st_size]; exact hbz)
        simp only [hS] at HE1
        obtain ⟨p1, p2, p3, p4, p5⟩ := p
        have hkw := fun W (q : Keeps wr W) => HE1.out W (HKP.out.trans q)
        have HKW := Lib.hid hkw
        clear hc hp hbz hS hr1 hkw HNO
        go_wp2_with (first | (refine wp_ldP (b := b1) (off := off1 + k * 5) HR.out rfl _ rfl rfl ?_) | (go_at_call 14; refine (HKW.out _ ((Keeps.refl wr).alloc _)).mono ?_; rintro _ w2 ⟨rfl, k2⟩; have HB2 := Lib.hid (HBK.out.keeps (((Keeps.refl wr).alloc (.cells #[.int .i64 p1, .bool p2, .int .i64 p3, .bool p4, .string p5] 27)).trans k2)); have HK2 := Lib.hid (HKP.out.trans (((Keeps.refl wr).alloc (.cells #[.int .i64 p1, .bool p2, .int .i64 p3, .bool p4, .string p5] 27)).trans k2)); clear k2) | (go_at_call 15; refine (wstr_any bb bb _ S w2 HB2.out (by rw [HSZ.out]; have := HTL.out; omega) (by rw [← HB.out]; exact Below.size HK2.out)).mono ?_; rintro _ w3 ⟨rfl, hB3, k3⟩; have HB3 := Lib.hid hB3; have HK3 := Lib.hid (HK2.out.on HB.out k3); clear hB3 k3))
        go_roundw
        case rel => exact ⟨k + 1, by rw [HN.out]; omega, by go_num, HNX.out, by rw [HFL.out, ← HLS.out]; exact HB3.out, HK3.out⟩
        case measure => simp [intOf]; omega
      · have hcb : (c == 0) = false := by rw [beq_eq_false_iff_ne]; exact hc0
        have hne : ckP p ≠ 0 := by rw [hc]; exact hc0
        rw [ecP_no hne] at HE1
        replace HNO := Lib.hid (HNO.out hne)
        rw [hc] at HE1 HNO
        obtain ⟨S, hS⟩ : ∃ S, st [] = S := ⟨_, rfl⟩
        simp only [hS] at HE1
        obtain ⟨p1, p2, p3, p4, p5⟩ := p
        have hkw := fun W (q : Keeps wr W) => HE1.out W (HKP.out.trans q)
        have HKW := Lib.hid hkw
        clear hc hp hS hr1 hkw HNX hc0 hne
        go_wp2_with (first | (refine wp_ldP (b := b1) (off := off1 + k * 5) HR.out rfl _ rfl rfl ?_) | (go_at_call 14; refine (HKW.out _ ((Keeps.refl wr).alloc _)).mono ?_; rintro _ w2 ⟨rfl, k2⟩; have HK2 := Lib.hid (HKP.out.trans (((Keeps.refl wr).alloc (.cells #[.int .i64 p1, .bool p2, .int .i64 p3, .bool p4, .string p5] 27)).trans k2)); clear k2))
        go_ret2
        exact ⟨by rw [HNO.out]; rfl, HK2.out⟩
    · have hlI : ¬ (k : Int) < (len : Int) := by omega
      have htk : l.take k = l := List.take_of_length_le (by rw [HN.out]; omega)
      have HE := Lib.hid (show byO l = (((l.take k).map bts).flatten, 0) by rw [htk]; exact byO_ok (by rw [← htk]; exact HALL.out))
      clear htk
      obtain ⟨X, hX⟩ : ∃ X, ((l.take k).map bts).flatten = X := ⟨_, rfl⟩
      rw [hX] at HE HBK
      clear hX
      go_wp2_with (go_at_call 16; refine (bstr_any bb bb _ wr HBK.out HMB.out).mono ?_; rintro _ w2 ⟨rfl, k2⟩; have HK2 := Lib.hid (HKP.out.on HB.out k2); clear k2)
      go_ret2
      exact ⟨by rw [HE.out]; rfl, HK2.out⟩
end Go.Proofs.YtaabfkffemnidaaDoor
