/-
  What Split answers, of package datagram and of the document: for texts of up to a million bytes. The memory that was there stays.
-/
import Derived.Test.YtggokcakikkdgaaDgD
import Derived.Test.YtggokcakikkdgaaRowE
import Derived.Test.YtggokcakikkdgaaClone
namespace Go.Proofs.Ytggokcakikkdgaa
open Go.RowKit Gf Dg
set_option maxRecDepth 100000
def SplitPost (w0 : World) (l : List UInt8) (e : Ending) (w' : World) : Prop := ∃ v, e = .returned (.tuple #[v, .int .i64 (split l).2]) ∧ OwnE rowT w' w0.heap.size v (split l).1 ∧ Keeps w0 w'
/-- What holds where datagrams are known and bytes are left. -/
structure SpK (w0 : World) (l r : List UInt8) (acc : List (List UInt8)) (v : Value) (w : World) : Prop where
  sp : behind acc (split r) = split l
  len : acc.length + r.length ≤ l.length
  own : OwnE rowT w w0.heap.size v acc
  kp : Keeps w0 w
def SpJ (w0 : World) (l : List UInt8) (a : Act) (w : World) : Prop :=
  ∃ (r : List UInt8) (acc : List (List UInt8)) (v : Value), SpK w0 l r acc v w ∧ a.tmps.size = 42 ∧ a.defers = [] ∧ a.tmps.toList.take 5 = [.string (st r), undef, .slice none 0 0, .int .i64 0, v]
theorem SpK.keeps {w0 w w' : World} {l r : List UInt8} {acc : List (List UInt8)} {v : Value} (h : SpK w0 l r acc v w) (k : Keeps w w') : SpK w0 l r acc v w' := ⟨h.sp, h.len, h.own.keeps k, h.kp.trans k⟩
theorem SpK.done {w0 w : World} {l : List UInt8} {acc : List (List UInt8)} {v : Value} (h : SpK w0 l [] acc v w) : split l = (acc, 0) := by rw [← h.sp, split_nil]; unfold behind; simp
theorem SpK.peek {w0 w : World} {l r : List UInt8} {acc : List (List UInt8)} {v : Value} (h : SpK w0 l r acc v w) (hr : r ≠ []) (he : (Dg.peek r).2 ≠ 0) : split l = ([], (Dg.peek r).2) := by
  rw [← h.sp, split_peek hr he]; unfold behind; rw [if_pos he]
theorem SpK.bad {w0 w : World} {l r : List UInt8} {acc : List (List UInt8)} {v : Value} (h : SpK w0 l r acc v w) (hr : r ≠ []) (he : (Dg.peek r).2 = 0) (hc : check (first r) ≠ 0) : split l = ([], check (first r)) := by
  rw [← h.sp, split_bad hr he hc]; unfold behind; rw [if_pos hc]
theorem SpK.next {w0 w w' : World} {l r : List UInt8} {acc : List (List UInt8)} {v v' : Value} (h : SpK w0 l r acc v w) (hr : r ≠ []) (he : (Dg.peek r).2 = 0) (hc : check (first r) = 0) (ho : OwnE rowT w' w0.heap.size v' (acc ++ [first r])) (hk : Keeps w0 w') :
    SpK w0 l (r.drop (first r).length) (acc ++ [first r]) v' w' := by
  refine ⟨by rw [← behind_next hr he hc]; exact h.sp, ?_, ho, hk⟩
  have := first_length he hr
  have h2 : (first r).length ≤ r.length := by unfold first; rw [List.length_take]; omega
  have := h.len
  rw [List.length_append, List.length_drop, List.length_singleton]; omega
theorem SplitPost.no {w0 W : World} {l : List UInt8} {e : Int} (h : split l = ([], e)) (k : Keeps w0 W) : SplitPost w0 l (.returned (.tuple #[.slice none 0 0, .int .i64 e])) W := ⟨.slice none 0 0, by rw [h], by rw [h]; exact OwnE.nil _ _, k⟩
theorem SplitPost.yes {w0 W : World} {l : List UInt8} {acc : List (List UInt8)} {v : Value} (h : split l = (acc, 0)) (o : OwnE rowT W w0.heap.size v acc) (k : Keeps w0 W) : SplitPost w0 l (.returned (.tuple #[v, .int .i64 0])) W := ⟨v, by rw [h], by rw [h]; exact o, k⟩
set_option maxHeartbeats 1600000 in
theorem dgsplit_any (w0 : World) (s : ByteArray) (w : World) (hs : s.size ≤ 1000000) (hk : Keeps w0 w) :
    Calls Try.prog 22 #[.string s] w (SplitPost w0 (ls s)) := by
  go_enter Try.func22, Try.ntmps22
  go_wp2
  refine scope_loop (rest := ?rest) 0 (SpJ w0 (ls s)) (fun a _ => strLen (a.tmps.getD 0 undef)) ?hf ?pass ?first
  case hf => rfl
  case first =>
    intro hrest
    have HREST := Lib.hid hrest
    clear hrest
    go_wp2
    go_step3
    rename_i hK
    refine hK _ _ (HREST.out _ _ ⟨ls s, [], .slice none 0 0, ⟨behind_nil _, by simp, OwnE.nil _ _, hk⟩, rfl, rfl, ?_⟩)
    rw [st_ls]; rfl
  case pass =>
    rintro a w' ⟨r, acc, v, hK, hfs, hfd, hft⟩
    obtain ⟨us, rfl⟩ := frameN 37 [.string (st r), undef, .slice none 0 0, .int .i64 0, v] hfs hfd hft
    simp only [tailF, List.cons_append, List.nil_append, Nat.reduceAdd]
    have hlen := hK.len
    rw [← ls_size] at hlen
    have HKK := Lib.hid hK
    clear hfs hfd hft hK hk
    have hsz := st_size r
    obtain ⟨S, hS⟩ : ∃ S, st r = S := ⟨_, rfl⟩
    have HS := Lib.hid (show ls S = r by rw [← hS, ls_st])
    rw [hS] at hsz
    rw [hS]
    clear hS
    by_cases h0 : r = []
    · subst h0
      have hE2 : S.toList.isEmpty = true := by rw [ls_toList, HS.out]; rfl
      have HD := Lib.hid HKK.out.done
      have HO := Lib.hid HKK.out.own
      have HP := Lib.hid HKK.out.kp
      clear hsz
      go_wp2
      show bodyPost Try.prog Try.f22 (SplitPost w0 (ls s)) Exit.ret _ _
      go_ret2
      exact SplitPost.yes HD.out HO.out HP.out
    · have hE2 : S.toList.isEmpty = false := by
        rw [ls_toList, HS.out]
        cases r with
        | nil => exact absurd rfl h0
        | cons _ _ => rfl
      obtain ⟨⟨⟨r1, r2, r3, r4⟩, r5⟩, hr⟩ : ∃ q, peek r = q := ⟨_, rfl⟩
      have hpk := dgpeek_any w' S w' (by omega) (Keeps.refl w')
      unfold PkPost HdPost at hpk
      rw [HS.out, hr] at hpk
      have HPK := Lib.hid hpk
      have HN := Lib.hid h0
      have HR := Lib.hid hr
      clear hpk hr h0
      by_cases h5 : r5 = 0
      · subst h5
        have hok := peek_ok (l := r) (by rw [HR.out])
        rw [HR.out] at hok
        obtain ⟨o1, o2, o3, o4, _, o6⟩ := hok
        simp only at o1 o2 o3 o4
        obtain ⟨k3, rfl⟩ : ∃ k : Nat, r3 = (k : Int) := ⟨r3.toNat, by omega⟩
        have hfl : first r = r.take k3 := by unfold first; rw [HR.out]; rfl
        obtain ⟨m, hm⟩ : ∃ m, (first r).length = m := ⟨_, rfl⟩
        have hmm : m = min k3 S.size := by rw [← hm, hfl, List.length_take, hsz]
        have HX := Lib.hid (show ls (S.extract 0 m) = first r by
          rw [ls_part, HS.out, hmm, hfl, hsz, Nat.sub_zero, List.drop_zero]
          by_cases h : k3 ≤ r.length
          · rw [Nat.min_eq_left h]
          · rw [Nat.min_eq_right (by omega), List.take_of_length_le (Nat.le_refl _), List.take_of_length_le (by omega)])
        have HY := Lib.hid (show S.extract m S.size = st (r.drop (first r).length) by
          rw [← st_ls (S.extract m S.size), ls_part, HS.out, hm, hsz, List.take_of_length_le (by rw [List.length_drop]; omega)])
        have HMM := Lib.hid hm
        have hm0 : 1 ≤ m := by omega
        have hm1 : m ≤ S.size := by omega
        have HP := Lib.hid HKK.out.kp
        have hxs : (S.extract 0 m).size = m := by rw [ByteArray.size_extract]; omega
        have HCK := Lib.hid (show ∀ W : World, Calls Try.prog 12 #[.string (S.extract 0 m)] W fun e w' => e = .returned (.int .i64 (check (first r))) ∧ Keeps W w' by
          intro W
          have := dgcheck_any W (S.extract 0 m) W (by omega) (Keeps.refl W)
          unfold ChPost at this
          rwa [HX.out] at this)
        have hmin : min (k3 : Int) (S.size : Int) = (m : Int) := by omega
        clear hfl hmm hsz hm o6
        by_cases hc : check (first r) = 0
        · have HNX := Lib.hid (fun v' W => HKK.out.next (v' := v') (w' := W) HN.out (by rw [HR.out]) hc)
          have HOW := Lib.hid HKK.out.own
          have hal : acc.length ≤ 100000000 := by have := HKK.out.len; rw [← ls_size] at this; omega
          rw [hc] at HCK
          clear hc
          go_wp2_with fail
          refine HPK.out.mono ?_
          rintro e w1 ⟨rfl, hk1⟩
          unfold hdR
          go_wp2_with fail
          with_reducible refine (HCK.out _).mono ?_
          rintro e w2 ⟨rfl, hk2⟩
          have HK2 := Lib.hid ((hk1.alloc _).trans hk2)
          clear hk1 hk2
          go_wp2_with fail
          with_reducible refine (clone_any (S.extract 0 m) w2 (by omega)).mono ?_
          rintro e w3 ⟨rfl, hb3⟩
          have hk3 := HK2.out.trans hb3
          have HO3 := Lib.hid (HOW.out.keeps hk3)
          have HP3 := Lib.hid (HP.out.trans hk3)
          have hbs := Below.size (HP.out.trans hk3)
          have HCS := Lib.hid (show (rowT.enc (first r)).toArray = #[.string (S.extract 0 m)] by show #[Value.string (st (first r))] = _; rw [← HX.out, st_ls])
          clear hb3 hk3
          go_wp2_with (at_builtin; refine wp_pushE (T := rowT) rfl _ _ rfl (first r) _ HCS.out w3.heap.size rfl HO3.out rfl rfl hal hbs _ ?_; intro v5 w5 own5 grow5 at5)
          go_step3
          have HNN := HNX.out v5 w5 own5 ((HP3.out.alloc _).grown grow5 HO3.out.block)
          refine ⟨rfl, ⟨r.drop (first r).length, acc ++ [first r], v5, HNN, rfl, rfl, by rw [← HY.out]; rfl⟩, ?_⟩
          show (S.extract m S.size).size < S.size
          rw [ByteArray.size_extract]; omega
        · have HSP := Lib.hid (HKK.out.bad HN.out (by rw [HR.out]) hc)
          have hcb : (check (first r) != 0) = true := by simpa using hc
          generalize check (first r) = ce at *
          clear hc
          go_wp2_with fail
          refine HPK.out.mono ?_
          rintro e w1 ⟨rfl, hk1⟩
          unfold hdR
          go_wp2_with fail
          with_reducible refine (HCK.out _).mono ?_
          rintro e w2 ⟨rfl, hk2⟩
          go_wp2
          show bodyPost Try.prog Try.f22 (SplitPost w0 (ls s)) Exit.ret _ _
          go_ret2
          exact SplitPost.no HSP.out (((HP.out.trans hk1).alloc _).trans hk2)
      · have HSP := Lib.hid (HKK.out.peek HN.out (by rw [HR.out]; exact h5))
        have HP := Lib.hid HKK.out.kp
        go_wp2_with fail
        refine HPK.out.mono ?_
        rintro e w1 ⟨rfl, hk1⟩
        unfold hdR
        go_wp2
        show bodyPost Try.prog Try.f22 (SplitPost w0 (ls s)) Exit.ret _ _
        go_ret2
        have h2 := HSP.out
        rw [HR.out] at h2
        exact SplitPost.no h2 ((HP.out.trans hk1).alloc _)
def rspRel (w0 : World) (l : List UInt8) (s v : Value) (wr : World) : Prop := ∃ (r : List UInt8) (acc : List (List UInt8)), SpK w0 l r acc v wr ∧ s = .string (st r)
set_option maxHeartbeats 1600000 in
theorem dgrsplit_any (w0 : World) (s : ByteArray) (w : World) (hs : s.size ≤ 1000000) (hk : Keeps w0 w) :
    Calls Try.prog 23 #[.string s] w (SplitPost w0 (ls s)) := by
  go_enter Try.func23, Try.ntmps23
  go_wp2
  go_loopw [0, 4] (fun x v wr => rspRel w0 (ls s) x v wr) (fun x _ _ => strLen x)
  case atStart => exact ⟨ls s, [], ⟨behind_nil _, by simp, OwnE.nil _ _, hk⟩, by rw [st_ls]⟩
  case round =>
    obtain ⟨r, acc, hK, rfl⟩ := hrel
    have hlen := hK.len
    rw [← ls_size] at hlen
    have HKK := Lib.hid hK
    clear hK hk
    have hsz := st_size r
    obtain ⟨S, hS⟩ : ∃ S, st r = S := ⟨_, rfl⟩
    have HS := Lib.hid (show ls S = r by rw [← hS, ls_st])
    rw [hS] at hsz
    rw [hS]
    clear hS
    by_cases h0 : r = []
    · subst h0
      have hE2 : S.size = 0 := by rw [hsz]; rfl
      have HD := Lib.hid HKK.out.done
      have HO := Lib.hid HKK.out.own
      have HP := Lib.hid HKK.out.kp
      clear hsz
      go_wp2
      go_ret2
      exact SplitPost.yes HD.out HO.out HP.out
    · have hE2 : 0 < S.size := by rw [hsz]; exact List.length_pos_iff.2 h0
      obtain ⟨⟨⟨r1, r2, r3, r4⟩, r5⟩, hr⟩ : ∃ q, peek r = q := ⟨_, rfl⟩
      have hpk := dgrpeek_any wr S wr (by omega) (Keeps.refl wr)
      unfold PkPost HdPost at hpk
      rw [HS.out, hr] at hpk
      have HPK := Lib.hid hpk
      have HN := Lib.hid h0
      have HR := Lib.hid hr
      clear hpk hr h0
      by_cases h5 : r5 = 0
      · subst h5
        have hok := peek_ok (l := r) (by rw [HR.out])
        rw [HR.out] at hok
        obtain ⟨o1, o2, o3, o4, _, o6⟩ := hok
        simp only at o1 o2 o3 o4
        obtain ⟨k3, rfl⟩ : ∃ k : Nat, r3 = (k : Int) := ⟨r3.toNat, by omega⟩
        have hfl : first r = r.take k3 := by unfold first; rw [HR.out]; rfl
        obtain ⟨m, hm⟩ : ∃ m, (first r).length = m := ⟨_, rfl⟩
        have hmm : m = min k3 S.size := by rw [← hm, hfl, List.length_take, hsz]
        have HX := Lib.hid (show ls (S.extract 0 m) = first r by
          rw [ls_part, HS.out, hmm, hfl, hsz, Nat.sub_zero, List.drop_zero]
          by_cases h : k3 ≤ r.length
          · rw [Nat.min_eq_left h]
          · rw [Nat.min_eq_right (by omega), List.take_of_length_le (Nat.le_refl _), List.take_of_length_le (by omega)])
        have HY := Lib.hid (show S.extract m S.size = st (r.drop (first r).length) by
          rw [← st_ls (S.extract m S.size), ls_part, HS.out, hm, hsz, List.take_of_length_le (by rw [List.length_drop]; omega)])
        have hm0 : 1 ≤ m := by omega
        have hm1 : m ≤ S.size := by omega
        have HP := Lib.hid HKK.out.kp
        have hxs : (S.extract 0 m).size = m := by rw [ByteArray.size_extract]; omega
        have HCK := Lib.hid (show ∀ W : World, Calls Try.prog 13 #[.string (S.extract 0 m)] W fun e w' => e = .returned (.int .i64 (check (first r))) ∧ Keeps W w' by
          intro W
          have := dgrcheck_any W (S.extract 0 m) W (by omega) (Keeps.refl W)
          unfold ChPost at this
          rwa [HX.out] at this)
        have HCS := Lib.hid (show (rowT.enc (first r)).toArray = #[.string (S.extract 0 m)] by show #[Value.string (st (first r))] = _; rw [← HX.out, st_ls])
        have hor : (m = k3 ∧ (k3 : Int) < (S.size : Int)) ∨ (m = S.size ∧ ¬ (k3 : Int) < (S.size : Int)) := by omega
        have HSZ := Lib.hid hsz
        clear hfl hmm hsz hm o6
        by_cases hc : check (first r) = 0
        · have HNX := Lib.hid (fun v' W => HKK.out.next (v' := v') (w' := W) HN.out (by rw [HR.out]) hc)
          have HOW := Lib.hid HKK.out.own
          have hal : acc.length ≤ 100000000 := by have := HKK.out.len; rw [← ls_size] at this; omega
          rw [hc] at HCK
          clear hc
          rcases hor with ⟨rfl, hlt⟩ | ⟨rfl, hlt⟩
          · go_wp2_with fail
            refine HPK.out.mono ?_
            rintro e w1 ⟨rfl, hk1⟩
            unfold hdR
            go_wp2_with fail
            with_reducible refine (HCK.out _).mono ?_
            rintro e w2 ⟨rfl, hk2⟩
            have hk3 := (hk1.alloc (.cells #[.int .i64 r1, .int .i64 r2, .int .i64 (m : Int), .int .i64 r4] 28)).trans hk2
            have HO3 := Lib.hid (HOW.out.keeps hk3)
            have HP3 := Lib.hid (HP.out.trans hk3)
            have hbs := Below.size (HP.out.trans hk3)
            clear hk1 hk2 hk3
            go_wp2_with (at_builtin; refine wp_pushE (T := rowT) rfl _ _ rfl (first r) _ HCS.out w2.heap.size rfl HO3.out rfl rfl hal hbs _ ?_; intro v5 w5 own5 grow5 at5)
            have HNN := Lib.hid (HNX.out v5 w5 own5 ((HP3.out.alloc _).grown grow5 HO3.out.block))
            go_roundw
            case rel => exact ⟨_, _, HNN.out, by rw [HY.out]⟩
            case measure =>
              show (S.extract m S.size).size < S.size
              rw [ByteArray.size_extract]; omega
          · have hse : S.extract 0 S.size = S := by simp
            have hse2 : S.extract S.size S.size = st (r.drop (first r).length) := HY.out
            rw [hse] at HCK HCS
            have HY2 := Lib.hid hse2
            clear hse hse2 HX HY hxs
            go_wp2_with fail
            refine HPK.out.mono ?_
            rintro e w1 ⟨rfl, hk1⟩
            unfold hdR
            go_wp2_with fail
            with_reducible refine (HCK.out _).mono ?_
            rintro e w2 ⟨rfl, hk2⟩
            have hk3 := (hk1.alloc (.cells #[.int .i64 r1, .int .i64 r2, .int .i64 (k3 : Int), .int .i64 r4] 28)).trans hk2
            have HO3 := Lib.hid (HOW.out.keeps hk3)
            have HP3 := Lib.hid (HP.out.trans hk3)
            have hbs := Below.size (HP.out.trans hk3)
            clear hk1 hk2 hk3
            go_wp2_with (at_builtin; refine wp_pushE (T := rowT) rfl _ _ rfl (first r) _ HCS.out w2.heap.size rfl HO3.out rfl rfl hal hbs _ ?_; intro v5 w5 own5 grow5 at5)
            have HNN := Lib.hid (HNX.out v5 w5 own5 ((HP3.out.alloc _).grown grow5 HO3.out.block))
            go_roundw
            case rel => exact ⟨_, _, HNN.out, by rw [← HY2.out]; simp⟩
            case measure =>
              show (ByteArray.empty).size < S.size
              exact hm0
        · have HSP := Lib.hid (HKK.out.bad HN.out (by rw [HR.out]) hc)
          have hcb : (check (first r) != 0) = true := by simpa using hc
          generalize check (first r) = ce at *
          clear hc
          rcases hor with ⟨rfl, hlt⟩ | ⟨rfl, hlt⟩
          · go_wp2_with fail
            refine HPK.out.mono ?_
            rintro e w1 ⟨rfl, hk1⟩
            unfold hdR
            go_wp2_with fail
            with_reducible refine (HCK.out _).mono ?_
            rintro e w2 ⟨rfl, hk2⟩
            go_wp2
            go_ret2
            exact SplitPost.no HSP.out (((HP.out.trans hk1).alloc _).trans hk2)
          · have hse : S.extract 0 S.size = S := by simp
            rw [hse] at HCK
            clear hse
            go_wp2_with fail
            refine HPK.out.mono ?_
            rintro e w1 ⟨rfl, hk1⟩
            unfold hdR
            go_wp2_with fail
            with_reducible refine (HCK.out _).mono ?_
            rintro e w2 ⟨rfl, hk2⟩
            go_wp2
            go_ret2
            exact SplitPost.no HSP.out (((HP.out.trans hk1).alloc _).trans hk2)
      · have HSP := Lib.hid (HKK.out.peek HN.out (by rw [HR.out]; exact h5))
        have HP := Lib.hid HKK.out.kp
        have HCK := Lib.hid (show ∀ W : World, Calls Try.prog 13 #[.string S] W fun e w' => e = .returned (.int .i64 r5) ∧ Keeps W w' by
          intro W
          have := dgrcheck_any W S W (by omega) (Keeps.refl W)
          unfold ChPost at this
          rwa [HS.out, check_bad HR.out h5] at this)
        have h5b : (r5 != 0) = true := by simpa using h5
        have h5c : (r5 == 0) = false := by simpa using h5
        clear hsz
        go_wp2_with fail
        refine HPK.out.mono ?_
        rintro e w1 ⟨rfl, hk1⟩
        unfold hdR
        go_wp2_with fail
        with_reducible refine (HCK.out _).mono ?_
        rintro e w2 ⟨rfl, hk2⟩
        go_wp2
        go_ret2
        have h2 := HSP.out
        rw [HR.out] at h2
        exact SplitPost.no h2 (((HP.out.trans hk1).alloc _).trans hk2)
end Go.Proofs.Ytggokcakikkdgaa
