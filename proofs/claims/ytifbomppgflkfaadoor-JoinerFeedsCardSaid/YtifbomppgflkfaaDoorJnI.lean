/-
  What package joiner's leave, Drop, Held, Lost, New and take answer. The memory that was there stays, but for the joiner's own block.
-/
import Derived.Test.YtifbomppgflkfaaDoorJnApi
import Derived.Test.YtifbomppgflkfaaDoorJnA
import Derived.Test.YtifbomppgflkfaaDoorScD
import Derived.Test.YtifbomppgflkfaaDoorShelf
namespace Go.Proofs.YtifbomppgflkfaaDoor
open Go.RowKit Gf Pk Jn
set_option maxRecDepth 100000
set_option linter.unusedVariables false
/-- The program's joiner, in a block. -/
abbrev jrC (pid : Int) (h : ByteArray) (fl : Bool) (ct : Int) (bd : ByteArray) (lo : Int) : List Value := [.int .i64 pid, .string h, .bool fl, .int .i64 ct, .string bd, .int .i64 lo]
def jrS (p : Nat) (k : Nat) : Prop := k = p
def JrLast (J : JS) (ct : Int) (bd : ByteArray) : Prop := J.last = none ∧ ct = 0 ∧ bd = ⟨#[]⟩ ∨ ∃ q, J.last = some q ∧ ct = q.1 ∧ ls bd = q.2 ∧ 0 ≤ ct ∧ ct ≤ 15 ∧ bd.size ≠ 0
/-- It is a joiner's state. -/
def JrAt (S : Nat → Prop) (p : Nat) (pid : Int) (J : JS) (W : World) : Prop :=
  S = jrS p ∧ ∃ ct bd, CsAt p (jrC pid (st J.hold) J.fol ct bd J.lost) W ∧ JrLast J ct bd
theorem jrleave_any {b : Nat} {pid : Int} {h : ByteArray} {fl : Bool} {ct : Int} {bd : ByteArray} {lo : Int} {w : World} (H : CsAt b (jrC pid h fl ct bd lo) w) :
    Calls Tryd.prog 28 #[.pointer (some ⟨b, 0, none⟩)] w fun e w' => (∃ v, e = .returned v) ∧ CsAt b (jrC pid ⟨#[]⟩ false ct bd lo) w' ∧ Only b w w' := by
  have c1 := H.cell 1 rfl
  have f1 := H.fz 1 (by show 1 < 6; decide)
  have c2 := H.cell 2 rfl
  have f2 := H.fz 2 (by show 2 < 6; decide)
  have HE := Lib.hid (((H.set 1 (by show 1 < 6; decide) (.string ⟨#[]⟩)).set 2 (by show 2 < 6; decide) (.bool false)))
  have HO := Lib.hid ((Only.setCell w ⟨b, 1, none⟩ (.string ⟨#[]⟩)).trans (Only.setCell _ ⟨b, 2, none⟩ (.bool false)))
  clear H
  go_enter Tryd.func28, Tryd.ntmps28
  go_wp2
  go_end0
  exact ⟨⟨_, rfl⟩, HE.out, HO.out⟩
theorem jrdrop_any {b : Nat} {pid : Int} {h : ByteArray} {fl : Bool} {ct : Int} {bd : ByteArray} {lo : Int} {w : World} (H : CsAt b (jrC pid h fl ct bd lo) w) :
    Calls Tryd.prog 16 #[.pointer (some ⟨b, 0, none⟩)] w fun e w' => (∃ v, e = .returned v) ∧ CsAt b (jrC pid ⟨#[]⟩ false 0 ⟨#[]⟩ lo) w' ∧ Only b w w' := by
  have HL := Lib.hid (jrleave_any H)
  clear H
  go_enter Tryd.func16, Tryd.ntmps16
  go_wp2_with (go_at_call 28; refine HL.out.mono ?_; rintro _ w2 ⟨⟨v2, rfl⟩, c2, o2⟩; have q3 := c2.cell 3 rfl; have q4 := c2.cell 4 rfl; have g3 := c2.fz 3 (by show 3 < 6; decide); have g4 := c2.fz 4 (by show 4 < 6; decide); have HC2 := Lib.hid c2; have HO2 := Lib.hid o2; clear c2 o2)
  go_end0
  exact ⟨⟨_, rfl⟩, HC2.out.put [.int .i64 pid, .string ⟨#[]⟩, .bool false] [.int .i64 ct, .string bd] [.int .i64 0, .string ⟨#[]⟩] [.int .i64 lo] rfl rfl rfl, HO2.out.trans (only_setCells b [.int .i64 0, .string ⟨#[]⟩] 3 w2)⟩
theorem jrheld_any {b : Nat} {pid : Int} {h : ByteArray} {fl : Bool} {ct : Int} {bd : ByteArray} {lo : Int} {w : World} (H : CsAt b (jrC pid h fl ct bd lo) w) :
    Calls Tryd.prog 14 #[.pointer (some ⟨b, 0, none⟩)] w fun e w' => e = .returned (.string h) ∧ Keeps w w' := by
  have c1 := H.cell 1 rfl
  clear H
  go_enter Tryd.func14, Tryd.ntmps14
  go_wp2
  go_ret
  exact ⟨rfl, Keeps.refl _⟩
theorem jrlost_any {b : Nat} {pid : Int} {h : ByteArray} {fl : Bool} {ct : Int} {bd : ByteArray} {lo : Int} {w : World} (H : CsAt b (jrC pid h fl ct bd lo) w) :
    Calls Tryd.prog 15 #[.pointer (some ⟨b, 0, none⟩)] w fun e w' => e = .returned (.int .i64 lo) ∧ Keeps w w' := by
  have c1 := H.cell 5 rfl
  clear H
  go_enter Tryd.func15, Tryd.ntmps15
  go_wp2
  go_ret
  exact ⟨rfl, Keeps.refl _⟩
theorem jrnew_ok (pid : Int) (w : World) (h : 0 ≤ pid ∧ pid ≤ 8190) : Calls Tryd.prog 8 #[.int .i64 pid] w fun e w' => ∃ p, e = .returned (.tuple #[.pointer (some ⟨p, 0, none⟩), .int .i64 0]) ∧ CsAt p (jrC pid ⟨#[]⟩ false 0 ⟨#[]⟩ 0) w' ∧ Keeps w w' ∧ w.heap.size ≤ p := by
  obtain ⟨h1, h2⟩ := h
  have t1 : ¬ pid < 0 := by omega
  have t2 : ¬ 8191 ≤ pid := by omega
  clear h1 h2
  go_enter Tryd.func8, Tryd.ntmps8
  go_wp2
  go_ret2
  refine ⟨_, rfl, CsAt.made w #[.int .i64 pid, .string ⟨#[]⟩, .bool false, .int .i64 0, .string ⟨#[]⟩, .int .i64 0] _ (by simp), (Keeps.refl w).alloc _, Nat.le_refl _⟩
theorem jrnew_no (pid : Int) (w : World) (h : ¬ (0 ≤ pid ∧ pid ≤ 8190)) : Calls Tryd.prog 8 #[.int .i64 pid] w fun e w' => e = .returned (.tuple #[.pointer none, .int .i64 15]) ∧ Keeps w w' := by
  by_cases t1 : pid < 0
  · clear h
    go_enter Tryd.func8, Tryd.ntmps8
    go_wp2
    go_ret2
    exact ⟨rfl, Keeps.refl _⟩
  · have t2 : 8191 ≤ pid := by omega
    clear h
    go_enter Tryd.func8, Tryd.ntmps8
    go_wp2
    go_ret2
    exact ⟨rfl, Keeps.refl _⟩
/-- What take answers. -/
def JtPost (w0 : World) (b : Nat) (pid ct : Int) (bd : ByteArray) (lo : Int) (t : Tk) (e : Ending) (w' : World) : Prop :=
  ∃ v, e = .returned (.tuple #[v, .int .i64 (if t.ok then 0 else 12)]) ∧ OwnE rowT w' w0.heap.size v t.out ∧ CsAt b (jrC pid (st t.hold) t.fol ct bd lo) w' ∧ Only b w0 w'
theorem JtPost.of {w0 W : World} {b : Nat} {pid ct : Int} {bd : ByteArray} {lo : Int} {l0 : List UInt8} {acc : List (List UInt8)} {hold : List UInt8} {h : ByteArray} {fol ok : Bool} {t : Tk} {v : Value} {e : Int}
    (h0 : tk l0 = ⟨acc ++ t.out, t.hold, t.fol, t.ok⟩) (ht : t = ⟨[], hold, fol, ok⟩) (hh : h = st hold) (he : e = if ok then 0 else 12) (ho : OwnE rowT W w0.heap.size v acc) (hc : CsAt b (jrC pid h fol ct bd lo) W) (k : Only b w0 W) :
    JtPost w0 b pid ct bd lo (tk l0) (.returned (.tuple #[v, .int .i64 e])) W := by
  rw [h0, ht]
  subst hh he
  exact ⟨v, rfl, by rw [List.append_nil]; exact ho, hc, k⟩
def jsz : Value → Nat | .string s => s.size | _ => 0
/-- What holds at each jump. -/
structure JtK (w0 : World) (b : Nat) (pid : Int) (h : ByteArray) (ct : Int) (bd : ByteArray) (lo : Int) (l0 : List UInt8) (acc : List (List UInt8)) (l : List UInt8) (v : Value) (W : World) : Prop where
  t : tk l0 = ⟨acc ++ (tk l).out, (tk l).hold, (tk l).fol, (tk l).ok⟩
  n : acc.length + l.length ≤ l0.length
  o : OwnE rowT W w0.heap.size v acc
  c : CsAt b (jrC pid h true ct bd lo) W
  k : Only b w0 W
def JtJ (w0 : World) (b : Nat) (pid : Int) (h s : ByteArray) (ct : Int) (bd : ByteArray) (lo : Int) (l0 : List UInt8) (a : Act) (W : World) : Prop :=
  ∃ acc l v, JtK w0 b pid h ct bd lo l0 acc l v W ∧ a.tmps.size = 69 ∧ a.defers = [] ∧ a.tmps.toList.take 8 = [.pointer (some ⟨b, 0, none⟩), .string s, undef, undef, .slice none 0 0, .int .i64 0, v, .string (st l)]
theorem jrtake_off {b : Nat} {pid : Int} {h : ByteArray} {ct : Int} {bd : ByteArray} {lo : Int} {w : World} (H : CsAt b (jrC pid h false ct bd lo) w) (s : ByteArray) :
    Calls Tryd.prog 34 #[.pointer (some ⟨b, 0, none⟩), .string s] w fun e w' => e = .returned (.tuple #[.slice none 0 0, .int .i64 0]) ∧ w = w' := by
  have c2 := H.cell 2 rfl
  clear H
  go_enter Tryd.func34, Tryd.ntmps34
  go_wp2
  refine scope_loop (rest := ?rest) 0 (fun _ _ => False) (fun _ _ => 0) ?hf ?pass ?first
  case hf => rfl
  case pass => exact fun _ _ h => h.elim
  case first =>
    intro _
    go_wp2
    show bodyPost Tryd.prog Tryd.f34 (fun e w' => e = .returned (.tuple #[.slice none 0 0, .int .i64 0]) ∧ w = w') Exit.ret _ _
    go_ret2
    exact ⟨rfl, rfl⟩
set_option maxHeartbeats 6400000 in
theorem jrtake_any {b : Nat} {pid : Int} {h : ByteArray} {ct : Int} {bd : ByteArray} {lo : Int} {w : World} (H : CsAt b (jrC pid h true ct bd lo) w) (s : ByteArray) (hz1 : h.size ≤ 10000) (hz2 : s.size ≤ 10000) :
    Calls Tryd.prog 34 #[.pointer (some ⟨b, 0, none⟩), .string s] w (JtPost w b pid ct bd lo (tk (ls h ++ ls s))) := by
  have hbo := H.old
  obtain ⟨S, hS⟩ : ∃ S, h ++ s = S := ⟨_, rfl⟩
  have hSl : ls S = ls h ++ ls s := by rw [← hS, ls_append]
  have hSz : S.size = h.size + s.size := by rw [← hS, ByteArray.size_append]
  obtain ⟨l0, hl0⟩ : ∃ l0, ls h ++ ls s = l0 := ⟨_, rfl⟩
  rw [hl0] at hSl ⊢
  have hl0z : l0.length ≤ 20000 := by rw [← hSl, ← ls_size]; omega
  have HST := Lib.hid (show S = st l0 by rw [← hSl, st_ls])
  have c1 := H.cell 1 rfl
  have c2 := H.cell 2 rfl
  have HC := Lib.hid H
  have hadd : ¬ 9223372036854775807 < h.size + s.size := by omega
  have HB := Lib.hid hbo
  clear H hSz hl0 hSl hbo hz1 hz2
  go_enter Tryd.func34, Tryd.ntmps34
  go_wp2
  refine scope_loop (rest := ?rest) 0 (JtJ w b pid h s ct bd lo l0) (fun a _ => jsz (a.tmps.getD 7 undef)) ?hf ?pass ?first
  case hf => rfl
  case first =>
    intro hrest
    have HREST := Lib.hid hrest
    clear hrest
    go_wp2
    go_step3
    rename_i hK
    refine hK _ _ (HREST.out _ _ ⟨[], l0, .slice none 0 0, ⟨rfl, by simp, OwnE.nil _ _, HC.out, Only.refl _ _⟩, rfl, rfl, ?_⟩)
    rw [← HST.out]
    rfl
  case pass =>
    rintro a wr ⟨acc, l, v, hK, hfs, hfd, hft⟩
    obtain ⟨us, rfl⟩ := frameN 61 [.pointer (some ⟨b, 0, none⟩), .string s, undef, undef, .slice none 0 0, .int .i64 0, v, .string (st l)] hfs hfd hft
    simp only [tailF, List.cons_append, List.nil_append, Nat.reduceAdd]
    clear hfs hfd hft
    have HT := Lib.hid hK.t
    have HOW := Lib.hid hK.o
    have HC := Lib.hid hK.c
    have HON := Lib.hid hK.k
    have hal := hK.n
    have HAL := Lib.hid hal
    have hlz : l.length ≤ 20000 := by omega
    obtain ⟨R, hR⟩ : ∃ R, st l = R := ⟨_, rfl⟩
    have hRl : ls R = l := by rw [← hR, ls_st]
    have hRz : R.size = l.length := by rw [← hR, st_size]
    have HRR := Lib.hid hR
    rw [hR]
    clear hal hR hK c1 c2 hadd HST
    have HNE := Lib.hid (scneed_any wr R wr (by omega) (Keeps.refl wr))
    unfold NeedPost at HNE
    rw [hRl] at HNE
    have hRb : R.size ≤ 20000 := by omega
    by_cases h0 : l = []
    · have hi : (R.toList == []) = true := by rw [beq_iff_eq, ls_toList, hRl, h0]
      subst h0
      have hn0 : Sct.need [] = (0, 10) := rfl
      rw [hn0] at HNE
      clear hRl hRz hlz hn0
      go_wp2_with (first | (go_at_call 42; refine HNE.out.mono ?_; rintro _ w2 ⟨rfl, k2⟩; have HC2 := Lib.hid (HC.out.keeps k2); have HOW2 := Lib.hid (HOW.out.keeps k2); have HON2 := Lib.hid (HON.out.trans (Only.below k2)); clear k2) | (go_at_call 33; refine (clone_any _ _ (by omega)).mono ?_; rintro _ w3 ⟨rfl, k3⟩; have HC3 := Lib.hid (HC2.out.keeps k3); have HOW3 := Lib.hid (HOW2.out.keeps k3); have HON3 := Lib.hid (HON2.out.trans (Only.below k3)); clear k3; have qc3 := HC3.out.cell 1 rfl; have fc3 := HC3.out.fz 1 (by show 1 < 6; decide)))
      show bodyPost Tryd.prog Tryd.f34 _ Exit.ret _ _
      go_ret2
      exact JtPost.of HT.out tk_nil HRR.out.symm rfl (HOW3.out.only (show Only b w3 _ from Only.setCell w3 ⟨b, 1, none⟩ (.string R)) (fun e => by have := HOW3.out.block _ e; have := HB.out; omega)) (HC3.out.set 1 (by show 1 < 6; decide) (.string R)) (HON3.out.trans (Only.setCell _ ⟨b, 1, none⟩ _))
    have hlp := List.length_pos_iff.2 h0
    have z0 : 0 < R.size := by omega
    have i0 : (0 : Int) < (R.size : Int) := by omega
    have hne : (R.toList == []) = false := by rw [beq_eq_false_iff_ne, ls_toList, hRl]; exact h0
    have g0 := ls_get R 0 z0
    rw [hRl] at g0
    by_cases h255 : cf l 0 = 255
    · have HX := Lib.hid (tk_end h0 h255)
      rw [h255] at g0
      have HLO := Lib.hid (jrleave_any HC.out)
      clear hRl hRz hlz h255 hlp HNE
      go_wp2_with (go_at_call 28; refine HLO.out.mono ?_; rintro _ w2 ⟨⟨v2, rfl⟩, c2, o2⟩; have HC2 := Lib.hid c2; have HO2 := Lib.hid o2; clear c2 o2)
      show bodyPost Tryd.prog Tryd.f34 _ Exit.ret _ _
      go_ret2
      exact JtPost.of HT.out HX.out rfl rfl (HOW.out.only HO2.out fun e => by have := HOW.out.block _ e; have := HB.out; omega) HC2.out (HON.out.trans HO2.out)
    obtain ⟨c0, hc0⟩ : ∃ c, cf l 0 = c := ⟨_, rfl⟩
    have hb : ((c0.toNat : Int) == 255) = false := by
      rw [beq_eq_false_iff_ne]; intro e
      exact h255 (by rw [hc0]; exact UInt8.toNat_inj.1 (by show c0.toNat = 255; omega))
    rw [hc0] at g0
    by_cases h3 : l.length < 3
    · have HX := Lib.hid (tk_few h0 h255 h3)
      rw [Sct.need_short h3] at HNE
      clear hRl hRz hlz h255 hlp hc0 h3
      go_wp2_with (first | (go_at_call 42; refine HNE.out.mono ?_; rintro _ w2 ⟨rfl, k2⟩; have HC2 := Lib.hid (HC.out.keeps k2); have HOW2 := Lib.hid (HOW.out.keeps k2); have HON2 := Lib.hid (HON.out.trans (Only.below k2)); clear k2) | (go_at_call 33; refine (clone_any _ _ (by omega)).mono ?_; rintro _ w3 ⟨rfl, k3⟩; have HC3 := Lib.hid (HC2.out.keeps k3); have HOW3 := Lib.hid (HOW2.out.keeps k3); have HON3 := Lib.hid (HON2.out.trans (Only.below k3)); clear k3; have qc3 := HC3.out.cell 1 rfl; have fc3 := HC3.out.fz 1 (by show 1 < 6; decide)))
      show bodyPost Tryd.prog Tryd.f34 _ Exit.ret _ _
      go_ret2
      exact JtPost.of HT.out HX.out HRR.out.symm rfl (HOW3.out.only (show Only b w3 _ from Only.setCell w3 ⟨b, 1, none⟩ (.string R)) (fun e => by have := HOW3.out.block _ e; have := HB.out; omega)) (HC3.out.set 1 (by show 1 < 6; decide) (.string R)) (HON3.out.trans (Only.setCell _ ⟨b, 1, none⟩ _))
    by_cases he : (Sct.need l).2 = 0
    · obtain ⟨n1, n2, n3⟩ := need_ge he
      obtain ⟨n, hn⟩ : ∃ n, (Sct.need l).1.toNat = n := ⟨_, rfl⟩
      rw [he, n3, hn] at HNE
      rw [hn] at n1 n2
      by_cases h4 : l.length < n
      · have HX := Lib.hid (tk_wait h255 h3 he (by rw [hn]; exact h4))
        have i4 : (R.size : Int) < (n : Int) := by omega
        clear hRl hRz hlz h255 hlp hc0 he n3 hn h4
        go_wp2_with (first | (go_at_call 42; refine HNE.out.mono ?_; rintro _ w2 ⟨rfl, k2⟩; have HC2 := Lib.hid (HC.out.keeps k2); have HOW2 := Lib.hid (HOW.out.keeps k2); have HON2 := Lib.hid (HON.out.trans (Only.below k2)); clear k2) | (go_at_call 33; refine (clone_any _ _ (by omega)).mono ?_; rintro _ w3 ⟨rfl, k3⟩; have HC3 := Lib.hid (HC2.out.keeps k3); have HOW3 := Lib.hid (HOW2.out.keeps k3); have HON3 := Lib.hid (HON2.out.trans (Only.below k3)); clear k3; have qc3 := HC3.out.cell 1 rfl; have fc3 := HC3.out.fz 1 (by show 1 < 6; decide)))
        show bodyPost Tryd.prog Tryd.f34 _ Exit.ret _ _
        go_ret2
        exact JtPost.of HT.out HX.out HRR.out.symm rfl (HOW3.out.only (show Only b w3 _ from Only.setCell w3 ⟨b, 1, none⟩ (.string R)) (fun e => by have := HOW3.out.block _ e; have := HB.out; omega)) (HC3.out.set 1 (by show 1 < 6; decide) (.string R)) (HON3.out.trans (Only.setCell _ ⟨b, 1, none⟩ _))
      · have HX := Lib.hid (tk_sec h255 h3 he (by rw [hn]; exact h4))
        rw [hn] at HX
        have i4 : ¬ (R.size : Int) < (n : Int) := by omega
        have i5 : (n : Int) ≤ (R.size : Int) := by omega
        have i6 : ¬ (n : Int) < 0 := by omega
        obtain ⟨P, hP⟩ : ∃ P, R.extract 0 n = P := ⟨_, rfl⟩
        have hPz : P.size ≤ 20000 := by rw [← hP, ByteArray.size_extract]; omega
        have HP := Lib.hid (show st (l.take n) = P by rw [← hP, ← st_ls (R.extract 0 n), ls_part, hRl, List.drop_zero, Nat.sub_zero])
        obtain ⟨R2, hR2⟩ : ∃ R2, R.extract n R.size = R2 := ⟨_, rfl⟩
        have HR2 := Lib.hid (show st (l.drop n) = R2 by rw [← hR2, ← st_ls (R.extract n R.size), ls_part, hRl, List.take_of_length_le (by rw [List.length_drop]; omega)])
        have HR2z := Lib.hid (show R2.size < R.size by rw [← HR2.out, st_size, List.length_drop]; omega)
        have HAC := Lib.hid (show acc.length ≤ 100000000 by have := HAL.out; omega)
        have HN12 := Lib.hid (show (acc ++ [l.take n]).length + (l.drop n).length ≤ l0.length by rw [List.length_append, List.length_drop]; have := HAL.out; simp only [List.length_singleton]; omega)
        have HT2 := Lib.hid (show tk l0 = ⟨(acc ++ [l.take n]) ++ (tk (l.drop n)).out, (tk (l.drop n)).hold, (tk (l.drop n)).fol, (tk (l.drop n)).ok⟩ by rw [HT.out, HX.out, List.append_assoc]; rfl)
        clear hRl hRz hlz h255 hlp hc0 he n3 hn h4
        go_wp2_with (first | (go_at_call 42; refine HNE.out.mono ?_; rintro _ w2 ⟨rfl, k2⟩; have HC2 := Lib.hid (HC.out.keeps k2); have HOW2 := Lib.hid (HOW.out.keeps k2); have HON2 := Lib.hid (HON.out.trans (Only.below k2)); clear k2) | (go_at_call 33; refine (clone_any _ _ (by omega)).mono ?_; rintro _ w3 ⟨rfl, k3⟩; have HC3 := Lib.hid (HC2.out.keeps k3); have HOW3 := Lib.hid (HOW2.out.keeps k3); have HON3 := Lib.hid (HON2.out.trans (Only.below k3)); clear k3; have hwb : w.heap.size ≤ w3.heap.size := HON3.out.size) | (at_builtin; refine wp_pushE (T := rowT) rfl _ _ rfl (l.take n) #[.string P] (by rw [← HP.out]; rfl) w3.heap.size rfl HOW3.out rfl rfl HAC.out hwb 9 ?_; intro v4 w4 o4 g4 _; have HO4 := Lib.hid o4; have HC4 := Lib.hid (HC3.out.pushed HB.out HOW3.out g4); have HON4 := Lib.hid (HON3.out.pushed HOW3.out g4); clear o4 g4))
        go_step3
        refine ⟨rfl, ⟨acc ++ [l.take n], l.drop n, v4, ⟨HT2.out, HN12.out, HO4.out, HC4.out, HON4.out⟩, rfl, rfl, ?_⟩, ?_⟩
        · rw [HR2.out]; rfl
        · exact HR2z.out
    · have HX := Lib.hid (tk_bad h255 h3 he)
      have he12 : (Sct.need l) = (0, 12) := by
        by_cases k : (Sct.c l 1 / 16 = 11 ∨ Sct.c l 1 / 16 = 15) ∧ 9 ≤ Sct.len12 l ∧ Sct.len12 l ≤ 4093
        · exact absurd (by rw [Sct.need_ok h3 k]) he
        · exact Sct.need_form h3 k
      rw [he12] at HNE
      clear hRl hRz hlz h255 hlp hc0 he he12
      go_wp2_with (first | (go_at_call 42; refine HNE.out.mono ?_; rintro _ w2 ⟨rfl, k2⟩; have HC2 := Lib.hid (HC.out.keeps k2); have HOW2 := Lib.hid (HOW.out.keeps k2); have HON2 := Lib.hid (HON.out.trans (Only.below k2)); clear k2) | (go_at_call 28; refine (jrleave_any HC2.out).mono ?_; rintro _ w3 ⟨⟨v3, rfl⟩, c3, o3⟩; have HC3 := Lib.hid c3; have HO3 := Lib.hid o3; clear c3 o3))
      show bodyPost Tryd.prog Tryd.f34 _ Exit.ret _ _
      go_ret2
      exact JtPost.of HT.out HX.out rfl rfl (HOW2.out.only HO3.out fun e => by have := HOW2.out.block _ e; have := HB.out; omega) HC3.out (HON2.out.trans HO3.out)
end Go.Proofs.YtifbomppgflkfaaDoor
