/-
  What Text of package bits' reader answers: for texts of up to a million bytes. Nothing that was there turns but the reader.
-/
import Derived.Test.YtmfldnflcmbnjaaBitsC
import Derived.Test.YtmfldnflcmbnjaaClone
namespace Go.Proofs.Ytmfldnflcmbnjaa
open Go.RowKit Go.Shelf Gf Bit
set_option maxRecDepth 100000
theorem ob_take : ∀ (l : List UInt8) (n : Nat), (ob l).take (8 * n) = ob (l.take n)
  | [], n => by simp [ob]
  | a :: l, 0 => by simp [ob]
  | a :: l, n + 1 => by
    rw [ob, List.take_succ_cons, ob, List.take_append, List.take_of_length_le (by rw [lb_length]; omega), lb_length, show 8 * (n + 1) - 8 = 8 * n by omega, ob_take l n]
theorem ob_drop : ∀ (l : List UInt8) (n : Nat), (ob l).drop (8 * n) = ob (l.drop n)
  | [], n => by simp [ob]
  | a :: l, 0 => by simp
  | a :: l, n + 1 => by
    rw [ob, List.drop_succ_cons, List.drop_append, List.drop_of_length_le (by rw [lb_length]; omega), lb_length, show 8 * (n + 1) - 8 = 8 * n by omega, List.nil_append, ob_drop l n]
/-- The next N bytes, from bit p on. -/
def nx (s : ByteArray) (p N : Nat) : List UInt8 := pack (((ob (ls s)).drop p).take (8 * N))
theorem nx_length {s : ByteArray} {p N : Nat} (h : p + 8 * N ≤ 8 * s.size) : (nx s p N).length = N := by
  unfold nx; rw [pack_length, List.length_take, List.length_drop, ob_length, ← ls_size]; omega
theorem nx_whole {s : ByteArray} {p N : Nat} (h8 : p % 8 = 0) : nx s p N = ((ls s).drop (p / 8)).take N := by
  unfold nx
  rw [show p = 8 * (p / 8) by omega, ob_drop, ob_take, pack_ob, show 8 * (p / 8) / 8 = p / 8 by omega]
theorem nx_get {s : ByteArray} {p N k : Nat} (h : p + 8 * N ≤ 8 * s.size) (hk : k < N) : un (num (((ob (ls s)).drop (p + 8 * k)).take 8)) = ((cf (nx s p N) k).toNat : Int) := by
  unfold nx un
  rw [cf_pack, byt_nat]
  have e : ((ob (ls s)).drop (p + 8 * k)).take 8 = (List.range 8).map fun i => bt (((ob (ls s)).drop p).take (8 * N)) (8 * k + i) := by
    refine list_ext_bt (by rw [List.length_take, List.length_drop, ob_length, ← ls_size, List.length_map, List.length_range]; omega) fun i hi => ?_
    rw [List.length_take] at hi
    have hi8 : i < 8 := by omega
    rw [bt_take hi8, bt_drop, bt_lt (L := (List.range 8).map _) (by rw [List.length_map, List.length_range]; exact hi8), List.getElem_map, List.getElem_range, bt_take (by omega), bt_drop, Nat.add_assoc]
  rw [e]
/-- The first k bytes, and bytes 0 behind them. -/
def mix (R : List UInt8) (k : Nat) : List UInt8 := R.take k ++ z8 (R.length - k)
theorem mix_zero (R : List UInt8) : mix R 0 = z8 R.length := rfl
theorem mix_all (R : List UInt8) : mix R R.length = R := by unfold mix; rw [List.take_length, Nat.sub_self]; exact List.append_nil _
theorem mix_length {R : List UInt8} {k : Nat} (h : k ≤ R.length) : (mix R k).length = R.length := by
  unfold mix z8; rw [List.length_append, List.length_take, List.length_replicate]; omega
theorem cf_mix {R : List UInt8} {k : Nat} (h : k ≤ R.length) (i : Nat) : cf (mix R k) i = if i < k then cf R i else 0 := by
  unfold mix cf z8
  rw [List.getD_eq_getElem?_getD, List.getElem?_append, List.length_take, Nat.min_eq_left h]
  by_cases hi : i < k
  · rw [if_pos hi, if_pos hi, List.getElem?_take_of_lt hi, List.getD_eq_getElem?_getD]
  · rw [if_neg hi, if_neg hi, List.getElem?_replicate]
    by_cases h2 : i - k < R.length - k <;> simp [h2]
theorem mix_set {R : List UInt8} {k : Nat} (h : k < R.length) : (mix R k).set k (cf R k) = mix R (k + 1) := by
  refine list_ext_cf (by rw [List.length_set, mix_length (by omega), mix_length (by omega)]) fun i _ => ?_
  rw [cf_set _ _ _ (by rw [mix_length (by omega)]; exact h), cf_mix (by omega), cf_mix (by omega)]
  by_cases e : i = k
  · subst e; rw [if_pos rfl, if_pos (by omega)]
  · rw [if_neg e]
    by_cases h2 : i < k
    · rw [if_pos h2, if_pos (by omega)]
    · rw [if_neg h2, if_neg (by omega)]
set_option maxHeartbeats 4000000 in
/-- Something was wrong, or is now. -/
theorem text_first {b : Nat} {e : Int} {s : ByteArray} {p : Nat} {w : World} (h : InAt b e s p w) (n : Int) (now : Bool) (hnow : decide (n < 0) = now) (hf : ferr e now 1 ≠ 0) :
    Calls Try.prog 49 #[.pointer (some ⟨b, 0, none⟩), .int .i64 n] w fun x w' => x = .returned (.string (st [])) ∧ InAt b (ferr e now 1) s p w' ∧ Only b w w' := by
  have HF := Lib.hid (show ∀ W, Eqv w W → Calls Try.prog 46 #[.pointer (some ⟨b, 0, none⟩), .bool now, .int .i64 1] W fun r w' => r = .returned (.bool true) ∧ Eqv (fw w b e now 1) w' from
    fun W q => (fails_eqv h q now 1).mono fun r w' hh => ⟨by rw [hh.1, decide_eq_true hf], hh.2⟩)
  have HI := Lib.hid (fw_in h now 1)
  have HO := Lib.hid (fw_only w b e now 1)
  generalize ferr e now 1 = e1 at *
  generalize fw w b e now 1 = w1 at *
  clear h hf
  go_enter Try.func49, Try.ntmps49
  go_wp2
  refine wp_draw (by kernel_rfl)
    [.pointer (some ⟨b, 0, none⟩), .bool false, .bool false, .pointer (some ⟨b, 0, none⟩), .pointer (some ⟨b, 0, none⟩), .pointer (some ⟨b, 0, none⟩), .int .i64 n, .bool now, .bool true, .bool true, .bool true, undef, undef, undef, undef, undef, undef, undef, undef, undef, .bool true]
    (Once 8 (Eqv w) (Eqv w1)) rfl (by kernel_rfl) (fin := ?finA) ?hfinA (Once.start (Eqv.drew w)) ?eachA ?hendA
  case hfinA => simp [seqA, dstOf, Act.put]; rfl
  case eachA =>
    refine ⟨?_, ?_, ?_, ?_, ?_, ?_, ?_, ?_, ?_, ?_, ?_, ?_, ?_, ?_, ?_, ?_, ?_, ?_, ?_, ?_, ?_, trivial⟩
    all_goals intro L w7 h0 hd hs hw
    all_goals try simp only [Nat.zero_add, Nat.reduceAdd] at h0
    all_goals first | rw [if_pos (by rfl)] | rw [if_neg (by decide)] | skip
    all_goals first | exact ⟨fun _ => rfl, fun L' k => hw.same (by decide) k⟩ | skip
    all_goals unfold Does
    all_goals try (go_simp; exact fun L' k => hw.same (by decide) k)
    · go_simp
      refine (HF.out w7 (hw.1 h0)).mono ?_
      rintro r w6 ⟨rfl, he⟩
      exact ⟨_, rfl, rfl, fun L' k => Once.done k he⟩
  case hendA =>
    intro L w7 hL hw
    have hC := hw.2 (hL 8 (by simp))
    go_wp2
    go_ret
    exact ⟨rfl, HI.out.eqv hC, HO.out.trans (Only.eqv hC)⟩
def txRel (w : World) (b g : Nat) (s : ByteArray) (p N : Nat) (R : List UInt8) (i : Value) (wr : World) : Prop := ∃ k : Nat, k ≤ N ∧ i = .int .i64 (k : Int) ∧ InAt b 0 s (p + 8 * k) wr ∧ Blk g (mix R k) wr ∧ Only b w wr
set_option maxHeartbeats 4000000 in
/-- Nothing is wrong with n: there are so many bytes, or not. -/
theorem text_next {b : Nat} {s : ByteArray} {p : Nat} {w : World} (h : InAt b 0 s p w) (n : Int) (hn : 0 ≤ n ∧ n ≤ 9223372036854775807) (hs : s.size ≤ 1000000) (hp : p ≤ 8 * s.size) (f : Bool) (hf : decide (n > (8 * (s.size : Int) - (p : Int)) / 8) = f) :
    Calls Try.prog 49 #[.pointer (some ⟨b, 0, none⟩), .int .i64 n] w fun x w' => x = .returned (.string (st (if f then [] else nx s p n.toNat))) ∧ InAt b (if f then 10 else 0) s (if f then p else p + 8 * n.toNat) w' ∧ Only b w w' := by
  have H1 := Lib.hid (show ∀ W, Eqv w W → Calls Try.prog 46 #[.pointer (some ⟨b, 0, none⟩), .bool false, .int .i64 1] W fun r w' => r = .returned (.bool false) ∧ Eqv w w' from
    fun W q => (fails_eqv h q false 1).mono fun r w' hh => ⟨hh.1, hh.2⟩)
  have H2 := Lib.hid (show ∀ W, Eqv w W → Calls Try.prog 46 #[.pointer (some ⟨b, 0, none⟩), .bool f, .int .i64 10] W fun r w' => r = .returned (.bool f) ∧ Eqv (fw w b 0 f 10) w' from
    fun W q => (fails_eqv h q f 10).mono fun r w' hh => ⟨by rw [hh.1]; cases f <;> rfl, hh.2⟩)
  have H3 := Lib.hid (show ∀ W, Eqv w W → Calls Try.prog 47 #[.pointer (some ⟨b, 0, none⟩)] W fun r w' => r = .returned (.int .i64 (8 * (s.size : Int) - (p : Int))) ∧ Eqv w w' from
    fun W q => (left_any (h.eqv q) hs hp).mono fun r w' hh => ⟨hh.1, q.trans hh.2⟩)
  have HI := Lib.hid (fw_in h f 10)
  have HO := Lib.hid (fw_only w b 0 f 10)
  have hbo := h.old
  generalize fw w b 0 f 10 = w1 at *
  clear h
  have hn0 : ¬ (n < 0) := by omega
  obtain ⟨lt, hlt⟩ : ∃ lt, 8 * (s.size : Int) - (p : Int) = lt := ⟨_, rfl⟩
  rw [hlt] at hf H3
  have hltb : 0 ≤ lt ∧ lt ≤ 8000000 := by omega
  obtain ⟨lf, hlf⟩ : ∃ lf, lt / 8 = lf := ⟨_, rfl⟩
  rw [hlf] at hf
  have hlb : 0 ≤ lf ∧ lf ≤ 1000000 := by omega
  have hfr : decide (lf < n) = f := hf
  have hq8 : IntKind.i64.wrap (lt.tdiv 8) = lf := by
    rw [Int.tdiv_eq_ediv_of_nonneg hltb.1, hlf]; simp [IntKind.wrap, IntKind.bits, IntKind.signed]; omega
  go_enter Try.func49, Try.ntmps49
  go_wp2
  refine wp_draw (by kernel_rfl)
    [.pointer (some ⟨b, 0, none⟩), .bool false, .bool false, .pointer (some ⟨b, 0, none⟩), .pointer (some ⟨b, 0, none⟩), .pointer (some ⟨b, 0, none⟩), .int .i64 n, .bool false, .bool false, .bool false, .bool false, .pointer (some ⟨b, 0, none⟩), .pointer (some ⟨b, 0, none⟩), .pointer (some ⟨b, 0, none⟩), .int .i64 n, .pointer (some ⟨b, 0, none⟩), .int .i64 lt, .int .i64 lf, .bool f, .bool f, .bool f]
    (Once 19 (Eqv w) (Eqv w1)) rfl (by kernel_rfl) (fin := ?finC) ?hfinC (Once.start (Eqv.drew w)) ?eachC ?hendC
  case hfinC => simp [seqA, dstOf, Act.put]; rfl
  case eachC =>
    refine ⟨?_, ?_, ?_, ?_, ?_, ?_, ?_, ?_, ?_, ?_, ?_, ?_, ?_, ?_, ?_, ?_, ?_, ?_, ?_, ?_, ?_, trivial⟩
    all_goals intro L w7 h0 hd hs hw
    all_goals try simp only [Nat.zero_add, Nat.reduceAdd] at h0
    all_goals first | rw [if_pos (by rfl)] | rw [if_neg (by decide)] | skip
    all_goals first | exact ⟨fun _ => rfl, fun L' k => hw.same (by decide) k⟩ | skip
    all_goals unfold Does
    all_goals try (go_simp; exact fun L' k => hw.same (by decide) k)
    · have h22 := hs.no (j := 19) (by kernel_rfl) (hs.no (j := 10) (by kernel_rfl) (hs.no (j := 9) (by kernel_rfl) h0))
      go_simp
      refine (H1.out w7 (hw.1 h22)).mono ?_
      rintro r w6 ⟨rfl, he⟩
      exact ⟨_, rfl, rfl, fun L' k => ⟨fun _ => he, fun hx => by rw [same_at k (by decide), h22] at hx; cases hx⟩⟩
    · have h22 := hs.no (j := 19) (by kernel_rfl) (hs.no (j := 18) (by kernel_rfl) (hs.no (j := 17) (by kernel_rfl) h0))
      go_simp
      refine (H3.out w7 (hw.1 h22)).mono ?_
      rintro r w6 ⟨rfl, he⟩
      exact ⟨_, rfl, rfl, fun L' k => ⟨fun _ => he, fun hx => by rw [same_at k (by decide), h22] at hx; cases hx⟩⟩
    · go_simp
      refine (H2.out w7 (hw.1 h0)).mono ?_
      rintro r w6 ⟨rfl, he⟩
      exact ⟨_, rfl, rfl, fun L' k => Once.done k he⟩
  case hendC =>
    intro L w7 hL hw
    have hC := hw.2 (hL 19 (by simp))
    have HW := Lib.hid (HI.out.eqv hC)
    have HP := Lib.hid (HO.out.trans (Only.eqv hC))
    have HFF := Lib.hid hf
    clear hfr hf hw hL
    cases f
    · have hle := of_decide_eq_false HFF.out
      obtain ⟨N, hN⟩ : ∃ N : Nat, n = (N : Int) := ⟨n.toNat, by omega⟩
      subst hN
      have hN1 : p + 8 * N ≤ 8 * s.size := by omega
      obtain ⟨i1, i2, i3, i4, i5⟩ := HW.out
      have hle2 : ((p + 8 * N : Nat) : Int) = (p : Int) + 8 * (N : Int) := by omega
      have HS := Lib.hid (HW.out.setK (p + 8 * N))
      rw [hle2] at HS
      have hpI : (p : Int) ≤ 8000000 := by omega
      have hNI : (N : Int) ≤ 1000000 := by omega
      by_cases h8 : p % 8 = 0
      · obtain ⟨j, hj⟩ : ∃ j, p / 8 = j := ⟨_, rfl⟩
        have e1 : (p : Int) / 8 = (j : Int) := by omega
        have e2 : (p : Int) % 8 = 0 := by omega
        have hjN : (j : Int) + (N : Int) ≤ (s.size : Int) := by omega
        have j2 := HS.out.txt
        have HX := Lib.hid (show s.extract j (j + N) = st (nx s p N) by
          have := congrArg st (ls_part s j (j + N))
          rw [st_ls] at this
          rw [this, nx_whole h8, hj, Nat.add_sub_cancel_left])
        have hxs : (s.extract j (j + N)).size ≤ 1000000000 := by rw [HX.out, st_size, nx_length hN1]; omega
        have HC := Lib.hid fun W => clone_any (s.extract j (j + N)) W hxs
        go_wp2_with (go_at_call 58; refine (HC.out _).mono ?_; rintro x w9 ⟨rfl, hb⟩)
        go_ret
        exact ⟨by show Ending.returned (.string (s.extract j (j + N))) = _; rw [HX.out], HS.out.keeps hb, (HP.out.trans (Only.setCell w7 ⟨b, 2, none⟩ _)).trans (Only.below hb)⟩
      · have e2 : ¬ ((p : Int) % 8 = 0) := by omega
        have hlen := nx_length hN1
        have HG := Lib.hid fun k (hk : k < N) => nx_get (s := s) (p := p) hN1 hk
        clear HS
        obtain ⟨R, hR⟩ : ∃ R, nx s p N = R := ⟨_, rfl⟩
        have HR := Lib.hid hR
        rw [hR] at hlen HG
        clear hR
        have hmk := make8 N (by omega) w7
        have hB := Blk.make w7 N
        have hA := Keeps.alloc (Keeps.refl w7) (.cells (zr N) 5)
        have hI := HW.out.keeps hA
        have hO := HP.out.trans (Only.below hA)
        have hg : w7.heap.size = w7.heap.size := rfl
        rw [show z8 N = mix R 0 by rw [mix_zero, hlen]] at hB
        go_wp2
        have hbg : b < w7.heap.size := HW.out.old
        have hwg : w.heap.size ≤ w7.heap.size := HP.out.size
        clear hmk hA i1 i2 i3 i4 i5
        generalize w7.alloc (.cells (zr N) 5) = w8 at *
        generalize w7.heap.size = g at *
        have HB := Lib.hid hB
        have HII := Lib.hid hI
        have HOO := Lib.hid hO
        clear hB hI hO
        go_loopw [63] (fun i wr => txRel w b g s p N R i wr) (fun i _ => N - (intOf i).toNat)
        case atStart => exact ⟨0, by omega, rfl, HII.out, HB.out, HOO.out⟩
        case round =>
          obtain ⟨k, hk, rfl, hi, hbk, ho⟩ := hrel
          by_cases hlt : k < N
          · have HN := Lib.hid (number_any hi 8 hs (by omega) (by omega))
            rw [HG.out k hlt] at HN
            have HS := Lib.hid (mix_set (R := R) (k := k) (by omega))
            have HBK := Lib.hid hbk
            have HO2 := Lib.hid ho
            have hx := u8_bd (cf R k)
            have hml : (mix R k).length = N := by rw [mix_length (by omega)]; exact hlen
            generalize cf R k = y at *
            have HML := Lib.hid hml
            clear hi hbk ho hml
            have hkN : (k : Int) < (N : Int) := by omega
            go_wp2_with (go_at_call 48; refine HN.out.mono ?_; rintro x w9 ⟨rfl, hn1, hn2⟩; have hb9 := HBK.out.only (c := b) (by omega) hn2; have c9 := hb9.cell k (by have := HML.out; omega); have f9 := hb9.free k (by have := HML.out; omega); have HB9 := Lib.hid hb9; clear hb9; have HN1 := Lib.hid hn1; have HN2 := Lib.hid hn2; clear hn1 hn2)
            go_roundw
            case rel =>
              have h3 := HB9.out.set (k := k) (by have := HML.out; omega) y
              rw [HS.out] at h3
              have k9 : Only g w9 (w9.setCell ⟨g, k, none⟩ (.int .u8 (y.toNat : Int))) := Only.setCell w9 ⟨g, k, none⟩ _
              exact ⟨k + 1, by omega, by go_num, by rw [show p + 8 * (k + 1) = p + 8 * k + 8 by omega]; exact HN1.out.only (by omega) k9, h3, (HO2.out.trans HN2.out).far k9 (by omega)⟩
            case measure => simp [intOf]; omega
          · obtain rfl : N = k := by omega
            have HW2 := Lib.hid (hbk.whole N (n := N) (by rw [mix_length (by omega)]; exact hlen.symm))
            have hw2 := HW2.out
            rw [← hlen, mix_all] at hw2
            rw [hlen] at hw2
            go_wp2
            go_ret
            exact ⟨by rw [HR.out]; rfl, hi, ho⟩
    · go_wp2
      go_ret
      exact ⟨rfl, HW.out, HP.out⟩
theorem text_ok {b : Nat} {s : ByteArray} {p : Nat} {w : World} (h : InAt b 0 s p w) (N : Nat) (hs : s.size ≤ 1000000) (hp : p + 8 * N ≤ 8 * s.size) :
    Calls Try.prog 49 #[.pointer (some ⟨b, 0, none⟩), .int .i64 (N : Int)] w fun x w' => x = .returned (.string (st (nx s p N))) ∧ InAt b 0 s (p + 8 * N) w' ∧ Only b w w' :=
  text_next h (N : Int) (by omega) hs (by omega) false (decide_eq_false (by omega))
theorem text_short {b : Nat} {s : ByteArray} {p : Nat} {w : World} (h : InAt b 0 s p w) (n : Int) (hn : 0 ≤ n ∧ n ≤ 9223372036854775807) (hs : s.size ≤ 1000000) (hp : p ≤ 8 * s.size) (hx : 8 * (s.size : Int) < (p : Int) + 8 * n) :
    Calls Try.prog 49 #[.pointer (some ⟨b, 0, none⟩), .int .i64 n] w fun x w' => x = .returned (.string (st [])) ∧ InAt b 10 s p w' ∧ Only b w w' :=
  text_next h n hn hs hp true (decide_eq_true (by omega))
theorem text_arg {b : Nat} {s : ByteArray} {p : Nat} {w : World} (h : InAt b 0 s p w) (n : Int) (hn : n < 0) :
    Calls Try.prog 49 #[.pointer (some ⟨b, 0, none⟩), .int .i64 n] w fun x w' => x = .returned (.string (st [])) ∧ InAt b 1 s p w' ∧ Only b w w' :=
  text_first h n true (decide_eq_true hn) (by decide)
theorem text_bad {b : Nat} {e : Int} {s : ByteArray} {p : Nat} {w : World} (h : InAt b e s p w) (n : Int) (he : e ≠ 0) :
    Calls Try.prog 49 #[.pointer (some ⟨b, 0, none⟩), .int .i64 n] w fun x w' => x = .returned (.string (st [])) ∧ InAt b e s p w' ∧ Only b w w' := by
  have e1 : ferr e (decide (n < 0)) 1 = e := by unfold ferr; rw [if_neg fun k => he k.1]
  have := text_first h n _ rfl (by rw [e1]; exact he)
  rwa [e1] at this
end Go.Proofs.Ytmfldnflcmbnjaa
