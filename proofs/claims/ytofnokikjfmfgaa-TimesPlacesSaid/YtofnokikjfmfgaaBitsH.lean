/-
  What fill and Text of package bits' writer do: whole bytes behind the others. For up to a million bits. Nothing that was there turns but the writer.
-/
import Derived.Test.YtofnokikjfmfgaaBitsG
import Derived.Test.YtofnokikjfmfgaaCopy
namespace Go.Proofs.Ytofnokikjfmfgaa
open Go.RowKit Go.Shelf Gf Bit
set_option maxRecDepth 100000
theorem cell_apart {b k : Nat} : ∀ (vs : List Value) (o : Nat) (w : World), k < o ∨ o + vs.length ≤ k → (w.setCells b o vs).cell? ⟨b, k, none⟩ = w.cell? ⟨b, k, none⟩
  | [], _, _, _ => rfl
  | v :: r, o, w, h => by
    show ((w.setCell ⟨b, o, none⟩ v).setCells b (o + 1) r).cell? _ = _
    rw [cell_apart r (o + 1) _ (by rw [List.length_cons] at h; omega)]
    exact set_other (by rw [List.length_cons] at h; omega)
theorem Eqv.setCells {w w' : World} (h : Eqv w w') (b : Nat) : ∀ (vs : List Value) (o : Nat), Eqv (w.setCells b o vs) (w'.setCells b o vs) := by
  intro vs
  induction vs generalizing w w' with
  | nil => intro _; exact h
  | cons v r ih => intro o; exact ih (h.setCell ⟨b, o, none⟩ v) (o + 1)
/-- Whole bytes, in their places: ahead of step. -/
theorem put_bytes {b : Nat} {M : List Bool} {W : World} (h : OutAt b M W) (h8 : M.length % 8 = 0) (vs : List UInt8) (hv : M.length / 8 % 128 + vs.length ≤ 128) :
    OutR b (byt (M ++ ob vs)) M.length (W.setCells b (1 + M.length / 8 % 128) (vs.map B)) ∧ W.there b (1 + M.length / 8 % 128) vs.length := by
  have ht : W.there b (1 + M.length / 8 % 128) vs.length := fun j hj => ⟨by rw [Nat.add_assoc, OutR.byte h (M.length / 8 % 128 + j) (by omega)]; rfl, OutR.free h _ (by omega)⟩
  obtain ⟨u, h1, h2⟩ := h.chain
  have k := only_setCells b (vs.map B) (1 + M.length / 8 % 128) W
  refine ⟨⟨(cell_apart _ _ _ (by rw [List.length_map]; omega)).trans h.cnt, fun i hi => ?_, fun i hi => by rw [World.frozen?_setCells]; exact h.free i hi, u, (cell_apart _ _ _ (by omega)).trans h1, (h2.only k).congr fun j hj => ?_⟩, ht⟩
  · by_cases e : M.length / 8 % 128 ≤ i ∧ i < M.length / 8 % 128 + vs.length
    · have hj : i - M.length / 8 % 128 < (vs.map B).length := by rw [List.length_map]; omega
      have h3 := World.cell?_setCells_in b (vs.map B) (1 + M.length / 8 % 128) W (fun j hj => by rw [List.length_map] at hj; exact (ht j hj).1) (i - M.length / 8 % 128) hj
      rw [show 1 + M.length / 8 % 128 + (i - M.length / 8 % 128) = 1 + i by omega, List.getElem_map] at h3
      rw [h3, show 128 * (M.length / 1024) + i = M.length / 8 + (i - M.length / 8 % 128) by omega, byt_ob h8, cf_lt (by omega)]; rfl
    · rw [cell_apart _ _ _ (by rw [List.length_map]; omega), h.byte i hi]
      by_cases e2 : i < M.length / 8 % 128
      · rw [byt_left (ob vs) (by omega)]
      · rw [byt_big (L := M) (by omega), byt_big (L := M ++ ob vs) (by rw [List.length_append, ob_length]; omega)]
  · exact (byt_left (ob vs) (by omega)).symm
theorem st_from (R : List UInt8) (c : Nat) : (st R).extract c (st R).size = st (R.drop c) := by
  have := congrArg st (ls_part (st R) c (st R).size)
  rw [st_ls] at this
  rw [this, ls_st, st_size, List.take_of_length_le (by rw [List.length_drop]; exact Nat.le_refl _)]
theorem alen128 : Try.prog.arrayLen 78 = 128 := by kernel_rfl
theorem elem128 : Try.prog.elem 78 = 5 := by kernel_rfl
theorem under128 : Try.prog.underlying 78 = some (.array (Try.prog.arrayLen 78) (Try.prog.elem 78)) := by kernel_rfl
/-- A block's bytes from byte i on. -/
theorem slice128 (w : World) (b : Nat) {i : Nat} (hi : i < 128) : (Instr.sliceAt 78 (.pointer (some ⟨b, 1, none⟩)) (some (.int .i64 (i : Int))) none none).run Try.prog w = .ok (.slice (some ⟨b, 1 + i, none⟩) (128 - i) (128 - i)) w := by
  rw [run_sliceAt_array_l w 78 ⟨b, 1, none⟩ under128 .i64 (i : Int) (by omega) (by rw [alen128]; omega), elem128, size8]
  simp only [Result.andThen_ok, slicedAt, alen128, Int.toNat_natCast, Nat.mul_one, Addr.add_mid]
  rw [if_neg (by omega)]
theorem slice128a (w : World) (b : Nat) : (Instr.sliceAt 78 (.pointer (some ⟨b, 1, none⟩)) none none none).run Try.prog w = .ok (.slice (some ⟨b, 1, none⟩) 128 128) w := by
  rw [run_sliceAt_array_all w 78 ⟨b, 1, none⟩ under128, elem128, size8]
  simp only [Result.andThen_ok, slicedAt, alen128]
  rfl
def fiRel (w : World) (b : Nat) (L : List Bool) (l : List UInt8) (v : Value) (wr : World) : Prop := ∃ j : Nat, j ≤ l.length ∧ v = .string (st (l.drop j)) ∧ OutAt b (L ++ ob (l.take j)) wr ∧ Only b w wr
def sizeOfV : Value → Nat
  | .string s => s.size
  | _ => 0
set_option maxHeartbeats 8000000 in
theorem fill_any {b : Nat} {L : List Bool} {w : World} (h : OutAt b L w) (l : List UInt8) (h8 : L.length % 8 = 0) (hL : L.length + 8 * l.length ≤ 1000000) :
    Calls Try.prog 62 #[.pointer (some ⟨b, 0, none⟩), .string (st l)] w fun e w' => (∃ v, e = .returned v) ∧ OutAt b (L ++ ob l) w' ∧ Only b w w' := by
  have HH := Lib.hid h
  clear h
  go_enter Try.func62, Try.ntmps62
  go_wp2
  go_loopw [1] (fun v wr => fiRel w b L l v wr) (fun v _ => sizeOfV v)
  case atStart => exact ⟨0, by omega, by rw [List.drop_zero], by rw [List.take_zero]; show OutAt b (L ++ []) w; rw [List.append_nil]; exact HH.out, Only.refl _ _⟩
  case round =>
    obtain ⟨j, hj, rfl, hO, hon⟩ := hrel
    by_cases hlt : j < l.length
    · have hMl : (L ++ ob (l.take j)).length = L.length + 8 * j := by rw [List.length_append, ob_length, List.length_take]; omega
      have HTK := Lib.hid fun c : Nat => show (L ++ ob (l.take j)) ++ ob ((l.drop j).take c) = L ++ ob (l.take (j + c)) by rw [List.append_assoc, ← ob_append, List.take_add]
      have HRL := Lib.hid (show (l.drop j).length = l.length - j from List.length_drop ..)
      have HDD := Lib.hid fun c : Nat => show (l.drop j).drop c = l.drop (j + c) from List.drop_drop ..
      generalize L ++ ob (l.take j) = M at *
      generalize l.drop j = R at *
      obtain ⟨n, hn⟩ : ∃ n, M.length = n := ⟨_, rfl⟩
      have hn2 : n = L.length + 8 * j := by rw [← hn]; exact hMl
      obtain ⟨i, hi⟩ : ∃ i, n / 8 % 128 = i := ⟨_, rfl⟩
      obtain ⟨cnt, hcnt⟩ : ∃ cnt, Nat.min (st R).size (128 - i) = cnt := ⟨_, rfl⟩
      have hRl := HRL.out
      have hcnt2 : cnt ≤ R.length ∧ cnt ≤ 128 - i ∧ 0 < cnt := by
        rw [st_size] at hcnt
        have h1 : cnt ≤ R.length := by rw [← hcnt]; exact Nat.min_le_left _ _
        have h2 : cnt ≤ 128 - i := by rw [← hcnt]; exact Nat.min_le_right _ _
        have h3 : 0 < Nat.min R.length (128 - i) := Nat.lt_min.2 ⟨by omega, by omega⟩
        omega
      have hne : ((st R).toList == []) = false := by
        rw [st_toList]; cases R with
        | nil => simp at hRl; omega
        | cons _ _ => rfl
      have hRL : (R.take cnt).length = cnt := by rw [List.length_take]; omega
      obtain ⟨hP, hT⟩ := put_bytes hO (by omega) (R.take cnt) (by rw [hRL, hn, hi]; omega)
      rw [hn, hi] at hP hT
      rw [hRL] at hT
      have hcn := OutR.cnt hO
      rw [hn] at hcn
      have HP := Lib.hid hP
      have HT := Lib.hid hT
      have HON := Lib.hid hon
      obtain ⟨q, hq⟩ : ∃ q, n / 8 = q := ⟨_, rfl⟩
      have hnb : n ≤ 1000000 := by omega
      have hi128 : i < 128 := by omega
      have e1 : IntKind.i64.wrap ((n : Int) / 8) = (q : Int) := by rw [wrap64 (by omega)]; omega
      have e2 : (q : Int).tmod 128 = (i : Int) := by rw [Int.tmod_eq_emod_of_nonneg (by omega)]; omega
      have hiI : (i : Int) < 128 := by omega
      obtain ⟨wc, hwc⟩ : ∃ wc, wr.setCells b (1 + i) ((R.take cnt).map B) = wc := ⟨_, rfl⟩
      have HWC := Lib.hid hwc
      have HN2 := Lib.hid hn2
      have HN := Lib.hid hn
      clear hO hP hT hon hMl hwc hn2 hn
      go_wp2
      refine wp_draw (by kernel_rfl)
        [.pointer (some ⟨b, 0, none⟩), .pointer (some ⟨b, 0, none⟩), .pointer (some ⟨b, 0, none⟩), .pointer (some ⟨b, 1, none⟩), .pointer (some ⟨b, 0, none⟩), .pointer (some ⟨b, 0, none⟩), .pointer (some ⟨b, 129, none⟩), .int .i64 (n : Int), .int .i64 (q : Int), .int .i64 (i : Int), .slice (some ⟨b, 1 + i, none⟩) (128 - i) (128 - i), .string (st R), .int .i64 (cnt : Int), .int .i64 (cnt : Int)]
        (Once 12 (Eqv wr) (Eqv wc))
        rfl (by kernel_rfl) (fin := ?fin) ?hfin (Once.start (Eqv.drew wr)) ?each ?hend
      case hfin => simp [seqA, dstOf, Act.put]; rfl
      case each =>
        refine ⟨?_, ?_, ?_, ?_, ?_, ?_, ?_, ?_, ?_, ?_, ?_, ?_, ?_, ?_, trivial⟩
        all_goals intro L7 w7 h0 hd hs hw
        all_goals try simp only [Nat.zero_add, Nat.reduceAdd] at h0
        all_goals try (unfold Does; go_simp; exact fun L' k => hw.same (by decide) k)
        · have hc := ((hw.1 (hs.no (j := 12) (by kernel_rfl) (hs.no (j := 10) (by kernel_rfl) (hs.no (j := 9) (by kernel_rfl) (hs.no (j := 8) (by kernel_rfl) h0))))).cell _).trans hcn
          unfold Does
          go_simp; exact fun L' k => hw.same (by decide) k
        · have hsl := slice128 w7 b hi128
          unfold Does
          go_simp
          exact fun L' k => hw.same (by decide) k
        · have hA := hw.1 h0
          refine Does.copy _ _ _ rfl rfl rfl rfl (copy_str hcnt (fun j hj => ⟨by rw [hA.cell]; exact (HT.out j hj).1, by rw [hA.frozen]; exact (HT.out j hj).2⟩) _) ?_
          refine ⟨fun _ => rfl, fun L' k => Once.done k ?_⟩
          rw [← HWC.out, ls_st]
          exact hA.setCells b _ _
      case hend =>
        intro L7 w7 hL7 hw
        have hC := hw.2 (hL7 12 (by simp))
        rw [← HWC.out] at hC
        have hO7 := HP.out.eqv hC
        have HK7 := Lib.hid (show Only b wr w7 from (only_setCells b _ _ wr).trans (Only.eqv hC))
        have hn2 := HN2.out
        have hML : (M ++ ob (R.take cnt)).length = n + 8 * cnt := by rw [List.length_append, ob_length, hRL, HN.out]
        have HS := Lib.hid (step_any hO7 (8 * cnt) (by omega) (by omega) (by omega) (byt_past (by rw [hML]; exact Nat.le_refl _)))
        have hc8 : ((8 * cnt : Nat) : Int) = 8 * (cnt : Int) := by omega
        rw [hc8] at HS
        have hcI : (cnt : Int) ≤ ((st R).size : Int) := by rw [st_size]; omega
        have hsz : (st R).size ≤ 1000000 := by rw [st_size]; omega
        have HSF := Lib.hid (st_from R cnt)
        clear hw hL7 hC hO7 hn2 hcn
        go_wp2_with (go_at_call 67; refine HS.out.mono ?_; rintro x0 w9 ⟨⟨u, rfl⟩, hO9, k9⟩)
        go_roundw
        case rel =>
          rw [HSF.out]
          refine ⟨j + cnt, by omega, by rw [HDD.out], ?_, (HON.out.trans HK7.out).trans k9⟩
          rw [← HTK.out cnt]
          unfold OutAt
          rw [hML]; exact hO9
        case measure =>
          rw [HSF.out]
          show (st (R.drop cnt)).size < (st R).size
          rw [st_size, st_size, List.length_drop]; omega
    · have hd : l.drop j = [] := List.drop_of_length_le (by omega)
      have ht : l.take j = l := List.take_of_length_le (by omega)
      rw [hd]
      rw [ht] at hO
      have hne : ((st []).toList == []) = true := by rw [st_toList]; rfl
      go_wp2
      go_end0
      exact ⟨⟨_, rfl⟩, hO, hon⟩
theorem ob_one (a : UInt8) : ob [a] = lb a.toNat 8 := by show lb a.toNat 8 ++ [] = _; rw [List.append_nil]
theorem ob_take_succ {s : List UInt8} {k : Nat} (h : k < s.length) : ob (s.take (k + 1)) = ob (s.take k) ++ lb (cf s k).toNat 8 := by
  rw [List.take_succ_eq_append_getElem h, ob_append, ob_one, cf_lt h]
theorem flat_take_succ {l : List (List UInt8)} {k : Nat} (h : k < l.length) : (l.take (k + 1)).flatten = (l.take k).flatten ++ l.getD k [] := by
  rw [List.take_succ_eq_append_getElem h, List.flatten_append, List.getD_eq_getElem?_getD, List.getElem?_eq_getElem h]; simp
theorem flat_take_le (l : List (List UInt8)) (k : Nat) : (l.take k).flatten.length ≤ l.flatten.length := by
  have : l.flatten = (l.take k).flatten ++ (l.drop k).flatten := by rw [← List.flatten_append, List.take_append_drop]
  rw [this, List.length_append]; omega
def otRel (w : World) (b : Nat) (L : List Bool) (l : List (List UInt8)) (i : Value) (wr : World) : Prop := ∃ k : Nat, k ≤ l.length ∧ i = .int .i64 (k : Int) ∧ OutAt b (L ++ ob (l.take k).flatten) wr ∧ Only b w wr
def oiRel (w : World) (b : Nat) (M : List Bool) (s : List UInt8) (i : Value) (wr : World) : Prop := ∃ k : Nat, k ≤ s.length ∧ i = .int .i64 (k : Int) ∧ OutAt b (M ++ ob (s.take k)) wr ∧ Only b w wr
set_option maxHeartbeats 8000000 in
theorem otext_any {b : Nat} {L : List Bool} {w : World} (h : OutAt b L w) {a : Option Addr} {len cap : Nat} (l : List (List UInt8)) (hT : IsT w a len l) (hne : ∀ x, a = some x → x.block ≠ b) (hlen : len ≤ 1000000) (hL : L.length + 8 * l.flatten.length ≤ 1000000) :
    Calls Try.prog 50 #[.pointer (some ⟨b, 0, none⟩), .slice a len cap] w fun e w' => (∃ v, e = .returned v) ∧ OutAt b (L ++ ob l.flatten) w' ∧ Only b w w' := by
  have HH := Lib.hid h
  have HT := Lib.hid hT
  obtain ⟨N, hN⟩ : ∃ N, l.length = N := ⟨_, rfl⟩
  have hll : len = N := by rw [← hN]; exact hT.1
  subst hll
  have HLL := Lib.hid hN
  clear h hT
  go_enter Try.func50, Try.ntmps50
  go_wp2
  go_loopw [11] (fun i wr => otRel w b L l i wr) (fun i _ => len - (intOf i).toNat)
  case atStart => exact ⟨0, by omega, rfl, by show OutAt b (L ++ []) w; rw [List.append_nil]; exact HH.out, Only.refl _ _⟩
  case round =>
    obtain ⟨k, hk, rfl, hO, hon⟩ := hrel
    rw [hN] at hk
    clear hN
    by_cases hltN : k < len
    · have hlt : k < l.length := by rw [HLL.out]; exact hltN
      obtain ⟨tb, off, rfl, htb, hcs⟩ := HT.out.2 (by rw [HLL.out]; omega)
      have hnb := hne _ rfl
      have hck := (hon.cell (p := ⟨tb, off + k, none⟩) htb hnb).trans (hcs k hlt)
      have hkI : (k : Int) < (len : Int) := by omega
      have HFL := Lib.hid (show L ++ ob (l.take (k + 1)).flatten = (L ++ ob (l.take k).flatten) ++ ob (l.getD k []) by rw [flat_take_succ hlt, ob_append, List.append_assoc])
      have hle := flat_take_le l (k + 1)
      rw [flat_take_succ hlt, List.length_append] at hle
      have hMl : (L ++ ob (l.take k).flatten).length = L.length + 8 * (l.take k).flatten.length := by rw [List.length_append, ob_length]
      generalize L ++ ob (l.take k).flatten = M at *
      generalize (l.take k).flatten.length = c at *
      generalize l.getD k [] = s at *
      have hcn := OutR.cnt hO
      have hMs : M.length + 8 * s.length ≤ 1000000 := by omega
      have hss : (st s).size ≤ 1000000 := by rw [st_size]; omega
      have HON := Lib.hid hon
      have HOO := Lib.hid hO
      clear hcs hle hon hO hne hlt
      obtain ⟨n, hn⟩ : ∃ n, M.length = n := ⟨_, rfl⟩
      have HN := Lib.hid hn
      rw [hn] at hcn hMs hMl
      clear hMl hn
      by_cases h8 : n % 8 = 0
      · have e1 : (n : Int) % 8 = 0 := by omega
        have HF := Lib.hid (fill_any HOO.out s (by rw [HN.out]; exact h8) (by rw [HN.out]; exact hMs))
        go_wp2_with (go_at_call 62; refine HF.out.mono ?_; rintro x0 w9 ⟨⟨u, rfl⟩, hO9, k9⟩)
        go_roundw
        case rel => exact ⟨k + 1, by rw [HLL.out]; omega, by go_num, by rw [HFL.out]; exact hO9, HON.out.trans k9⟩
        case measure => simp [intOf]; omega
      · have e1 : ¬ ((n : Int) % 8 = 0) := by omega
        go_wp2
        go_loopw [26] (fun i wr => oiRel w b M s i wr) (fun i _ => (st s).size - (intOf i).toNat)
        case atStart => exact ⟨0, by omega, rfl, by show OutAt b (M ++ []) _; rw [List.append_nil]; exact HOO.out, HON.out⟩
        case round =>
          obtain ⟨m, hm, rfl, hO2, hon2⟩ := hrel
          by_cases hms : m < s.length
          · have hmI : (m : Int) < ((st s).size : Int) := by rw [st_size]; omega
            have hgm : (st s)[m]'(by rw [st_size]; exact hms) = cf s m := by rw [ls_get, ls_st]
            have hy := u8_bd (cf s m)
            have HTS := Lib.hid (ob_take_succ hms)
            have HW := Lib.hid (write_any hO2 (cf s m).toNat 8 (Nat.lt_of_lt_of_le (cf s m).toNat_lt (by decide)) (by omega) (by rw [List.length_append, ob_length, List.length_take, HN.out]; omega))
            have HON2 := Lib.hid hon2
            clear hO2 hon2
            go_wp2_with (go_at_call 57; (try rw [hgm]); refine HW.out.mono ?_; rintro x0 w9 ⟨⟨u, rfl⟩, hO9, k9⟩)
            go_roundw
            case rel => exact ⟨m + 1, by omega, by go_num, by rw [HTS.out, ← List.append_assoc]; exact hO9, HON2.out.trans k9⟩
            case measure => rw [st_size]; simp [intOf]; omega
          · have hm2 : ¬ ((m : Int) < ((st s).size : Int)) := by rw [st_size]; omega
            have ht : s.take m = s := List.take_of_length_le (by omega)
            rw [ht] at hO2
            go_wp2
            go_roundw
            case rel => exact ⟨k + 1, by rw [HLL.out]; omega, by go_num, by rw [HFL.out]; exact hO2, hon2⟩
            case measure => simp [intOf]; omega
    · have ht : l.take k = l := List.take_of_length_le (by rw [HLL.out]; omega)
      rw [ht] at hO
      have hk2 : ¬ ((k : Int) < (len : Int)) := by omega
      go_wp2
      go_end0
      exact ⟨⟨_, rfl⟩, hO, hon⟩
end Go.Proofs.Ytofnokikjfmfgaa
