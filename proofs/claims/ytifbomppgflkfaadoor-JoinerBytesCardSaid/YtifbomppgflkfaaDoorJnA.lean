/-
  What the document's joiner's lose and take answer. The memory that was there stays, but for the joiner's own block.
-/
import Derived.Test.YtifbomppgflkfaaDoorJnMath
import Derived.Test.YtifbomppgflkfaaDoorScV
import Derived.Test.YtifbomppgflkfaaDoorCell
namespace Go.Proofs.YtifbomppgflkfaaDoor
open Go.RowKit Gf Pk Jn
set_option maxRecDepth 100000
/-- A joiner of the document's, in a block. -/
abbrev rjC (pid : Int) (h : ByteArray) (fl sn : Bool) (ct : Int) (bd : ByteArray) (lo : Int) : List Value := [.int .i64 pid, .string h, .bool fl, .bool sn, .int .i64 ct, .string bd, .int .i64 lo]
theorem rjlose_any {b : Nat} {pid : Int} {h : ByteArray} {fl sn : Bool} {ct : Int} {bd : ByteArray} {lo : Int} {w : World} (H : CsAt b (rjC pid h fl sn ct bd lo) w) :
    Calls Tryd.prog 26 #[.pointer (some ⟨b, 0, none⟩)] w fun e w' => (∃ v, e = .returned v) ∧ CsAt b (rjC pid ⟨#[]⟩ false sn ct bd lo) w' ∧ Only b w w' := by
  have c1 := H.cell 1 rfl
  have f1 := H.fz 1 (by show 1 < 7; decide)
  have c2 := H.cell 2 rfl
  have f2 := H.fz 2 (by show 2 < 7; decide)
  have HE := Lib.hid (((H.set 1 (by show 1 < 7; decide) (.string ⟨#[]⟩)).set 2 (by show 2 < 7; decide) (.bool false)))
  have HO := Lib.hid ((Only.setCell w ⟨b, 1, none⟩ (.string ⟨#[]⟩)).trans (Only.setCell _ ⟨b, 2, none⟩ (.bool false)))
  clear H
  go_enter Tryd.func26, Tryd.ntmps26
  go_wp2
  go_end0
  exact ⟨⟨_, rfl⟩, HE.out, HO.out⟩
/-- How many bytes are held. -/
def hz (b : Nat) (W : World) : Nat := match W.cell? ⟨b, 1, none⟩ with
  | some (.string s) => s.size
  | _ => 0
theorem hz_of {b : Nat} {W : World} {s : ByteArray} (h : W.cell? ⟨b, 1, none⟩ = some (.string s)) : hz b W = s.size := by unfold hz; rw [h]
/-- While bytes are taken. -/
def tkRel (w0 : World) (b : Nat) (pid : Int) (sn : Bool) (ct : Int) (bd : ByteArray) (lo : Int) (l0 : List UInt8) (v : Value) (W : World) : Prop :=
  ∃ acc l, tk l0 = ⟨acc ++ (tk l).out, (tk l).hold, (tk l).fol, (tk l).ok⟩ ∧ acc.length + l.length ≤ l0.length ∧ OwnE rowT W w0.heap.size v acc ∧ CsAt b (rjC pid (st l) true sn ct bd lo) W ∧ Only b w0 W
/-- Behind an append to a row that was made since. -/
theorem Only.pushed {b : Nat} {w w2 w3 : World} {o : Obj} {v : Value} {l : List (List UInt8)} (h : Only b w w2) (ho : OwnE rowT w2 w.heap.size v l) (g : (w2.alloc o).grownBy w3 v.ownBlock) : Only b w w3 := by
  have hs := h.size
  refine ⟨g.os.trans h.os, g.tape.trans h.tape, g.output.trans h.output, Nat.le_trans hs (Nat.le_trans (by rw [World.size_alloc]; omega) g.size), fun k hk hn => ?_⟩
  exact ((g.block k (by rw [World.size_alloc]; omega) fun e => by have := ho.block _ e.symm; omega).trans (Below.heap_alloc w2 o k (by omega))).trans (h.block k hk hn)
theorem CsAt.pushed {b n : Nat} {w2 w3 : World} {o : Obj} {v : Value} {l : List (List UInt8)} {cs : List Value} (h : CsAt b cs w2) (hb : b < n) (ho : OwnE rowT w2 n v l) (g : (w2.alloc o).grownBy w3 v.ownBlock) : CsAt b cs w3 := by
  have hold := h.old
  exact h.block ((g.block b (by rw [World.size_alloc]; omega) fun e => by have := ho.block _ e.symm; omega).trans (Below.heap_alloc w2 o b hold))
/-- What take answers. -/
def TkPost (w0 : World) (b : Nat) (pid : Int) (sn : Bool) (ct : Int) (bd : ByteArray) (lo : Int) (t : Tk) (e : Ending) (w' : World) : Prop :=
  ∃ v, e = .returned (.tuple #[v, .bool t.ok]) ∧ OwnE rowT w' w0.heap.size v t.out ∧ CsAt b (rjC pid (st t.hold) t.fol sn ct bd lo) w' ∧ Only b w0 w'
theorem TkPost.of {w0 W : World} {b : Nat} {pid : Int} {sn : Bool} {ct : Int} {bd : ByteArray} {lo : Int} {l0 : List UInt8} {acc : List (List UInt8)} {hold : List UInt8} {h : ByteArray} {fol ok : Bool} {t : Tk} {v : Value}
    (h0 : tk l0 = ⟨acc ++ t.out, t.hold, t.fol, t.ok⟩) (ht : t = ⟨[], hold, fol, ok⟩) (hh : h = st hold) (ho : OwnE rowT W w0.heap.size v acc) (hc : CsAt b (rjC pid h fol sn ct bd lo) W) (k : Only b w0 W) :
    TkPost w0 b pid sn ct bd lo (tk l0) (.returned (.tuple #[v, .bool ok])) W := by
  rw [h0, ht]
  subst hh
  exact ⟨v, rfl, by rw [List.append_nil]; exact ho, hc, k⟩
set_option maxHeartbeats 6400000 in
theorem rjtake_any {b : Nat} {pid : Int} {h : ByteArray} {sn : Bool} {ct : Int} {bd : ByteArray} {lo : Int} {w : World} (H : CsAt b (rjC pid h true sn ct bd lo) w) (s : ByteArray) (hz1 : h.size ≤ 10000) (hz2 : s.size ≤ 10000) :
    Calls Tryd.prog 27 #[.pointer (some ⟨b, 0, none⟩), .string s] w (TkPost w b pid sn ct bd lo (tk (ls h ++ ls s))) := by
  have hbo := H.old
  obtain ⟨S, hS⟩ : ∃ S, h ++ s = S := ⟨_, rfl⟩
  have hSl : ls S = ls h ++ ls s := by rw [← hS, ls_append]
  have hSz : S.size = h.size + s.size := by rw [← hS, ByteArray.size_append]
  obtain ⟨l0, hl0⟩ : ∃ l0, ls h ++ ls s = l0 := ⟨_, rfl⟩
  rw [hl0] at hSl ⊢
  have hl0z : l0.length ≤ 20000 := by rw [← hSl, ← ls_size]; omega
  have hSt : S = st l0 := by rw [← hSl, st_ls]
  have q1 := H.cell 1 rfl
  have g1 := H.fz 1 (by show 1 < 7; decide)
  have HE := Lib.hid (show CsAt b (rjC pid (st l0) true sn ct bd lo) (w.setCell ⟨b, 1, none⟩ (.string S)) by
    rw [hSt]; exact H.set 1 (by show 1 < 7; decide) (.string (st l0)))
  have HO := Lib.hid (Only.setCell w ⟨b, 1, none⟩ (.string S))
  have hadd : ¬ 9223372036854775807 < h.size + s.size := by omega
  have HB := Lib.hid hbo
  clear H hSz hl0 hSl hSt hbo
  go_enter Tryd.func27, Tryd.ntmps27
  go_wp2
  clear q1 g1 hS hadd
  go_loopw [6] (fun v wr => tkRel w b pid sn ct bd lo l0 v wr) (fun _ wr => hz b wr)
  case atStart => exact ⟨[], l0, rfl, by simp, OwnE.nil _ _, HE.out, HO.out⟩
  case round =>
    obtain ⟨acc, l, ht, hal, hown, hcs, hon⟩ := hrel
    have HT := Lib.hid ht
    have HOW := Lib.hid hown
    have HC := Lib.hid hcs
    have HON := Lib.hid hon
    have hq := hcs.cell 1 rfl
    have HAL := Lib.hid hal
    have hlz : l.length ≤ 20000 := by omega
    obtain ⟨R, hR⟩ : ∃ R, st l = R := ⟨_, rfl⟩
    have hRl : ls R = l := by rw [← hR, ls_st]
    have hRz : R.size = l.length := by rw [← hR, st_size]
    have HRR := Lib.hid hR
    have HHZ := Lib.hid (hz_of hq)
    rw [hR] at hq HC
    clear ht hown hcs hon hal hR
    by_cases h0 : l = []
    · have hi : (R.size : Int) = 0 := by rw [hRz, h0]; rfl
      subst h0
      clear hRl hRz hlz
      go_wp2
      go_ret2
      exact TkPost.of HT.out tk_nil HRR.out.symm HOW.out HC.out HON.out
    have hlp := List.length_pos_iff.2 h0
    have z0 : 0 < R.size := by omega
    have i0 : (0 : Int) < (R.size : Int) := by omega
    have g0 := ls_get R 0 z0
    rw [hRl] at g0
    by_cases h255 : cf l 0 = 255
    · have HX := Lib.hid (tk_end h0 h255)
      rw [h255] at g0
      have HLO := Lib.hid (rjlose_any HC.out)
      clear hRl hRz hlz h255 hlp
      go_wp2_with (go_at_call 26; refine HLO.out.mono ?_; rintro _ w2 ⟨⟨v2, rfl⟩, c2, o2⟩; have HC2 := Lib.hid c2; have HO2 := Lib.hid o2; clear c2 o2)
      go_ret2
      exact TkPost.of HT.out HX.out rfl (HOW.out.only HO2.out fun e => by have := HOW.out.block _ e; have := HB.out; omega) HC2.out (HON.out.trans HO2.out)
    obtain ⟨c0, hc0⟩ : ∃ c, cf l 0 = c := ⟨_, rfl⟩
    have hb : ((c0.toNat : Int) == 255) = false := by
      rw [beq_eq_false_iff_ne]; intro e
      exact h255 (by rw [hc0]; exact UInt8.toNat_inj.1 (by show c0.toNat = 255; omega))
    rw [hc0] at g0
    by_cases h3 : l.length < 3
    · have HX := Lib.hid (tk_few h0 h255 h3)
      have i3 : (R.size : Int) < 3 := by omega
      clear hRl hRz hlz h255 hlp hc0
      go_wp2
      go_ret2
      exact TkPost.of HT.out HX.out HRR.out.symm HOW.out HC.out HON.out
    have i3 : ¬ (R.size : Int) < 3 := by omega
    have HNE := Lib.hid (scrneed_any wr R wr (by omega) (Keeps.refl wr))
    unfold NeedPost at HNE
    rw [hRl] at HNE
    by_cases he : (Sct.need l).2 = 0
    · obtain ⟨n1, n2, n3⟩ := need_ge he
      obtain ⟨n, hn⟩ : ∃ n, (Sct.need l).1.toNat = n := ⟨_, rfl⟩
      rw [he, n3, hn] at HNE
      rw [hn] at n1 n2
      by_cases h4 : l.length < n
      · have HX := Lib.hid (tk_wait h255 h3 he (by rw [hn]; exact h4))
        have i4 : (R.size : Int) < (n : Int) := by omega
        clear hRl hRz hlz h255 hlp hc0 he n3 hn h4
        go_wp2_with (go_at_call 35; refine HNE.out.mono ?_; rintro _ w2 ⟨rfl, k2⟩; have HC2 := Lib.hid (HC.out.keeps k2); have HOW2 := Lib.hid (HOW.out.keeps k2); have HON2 := Lib.hid (HON.out.trans (Only.below k2)); clear k2; have hq2 := HC2.out.cell 1 rfl)
        go_ret2
        exact TkPost.of HT.out HX.out HRR.out.symm HOW2.out HC2.out HON2.out
      · have HX := Lib.hid (tk_sec h255 h3 he (by rw [hn]; exact h4))
        rw [hn] at HX
        have i4 : ¬ (R.size : Int) < (n : Int) := by omega
        have i5 : (n : Int) ≤ (R.size : Int) := by omega
        have i6 : ¬ (n : Int) < 0 := by omega
        obtain ⟨P, hP⟩ : ∃ P, R.extract 0 n = P := ⟨_, rfl⟩
        have HP := Lib.hid (show st (l.take n) = P by rw [← hP, ← st_ls (R.extract 0 n), ls_part, hRl, List.drop_zero, Nat.sub_zero])
        obtain ⟨R2, hR2⟩ : ∃ R2, R.extract n R.size = R2 := ⟨_, rfl⟩
        have HR2 := Lib.hid (show st (l.drop n) = R2 by rw [← hR2, ← st_ls (R.extract n R.size), ls_part, hRl, List.take_of_length_le (by rw [List.length_drop]; omega)])
        have HR2z := Lib.hid (show R2.size < R.size by rw [← HR2.out, st_size, List.length_drop]; omega)
        have HAC := Lib.hid (show acc.length ≤ 100000000 by have := HAL.out; omega)
        have HN12 := Lib.hid (show (acc ++ [l.take n]).length + (l.drop n).length ≤ l0.length by rw [List.length_append, List.length_drop]; have := HAL.out; simp only [List.length_singleton]; omega)
        have HT2 := Lib.hid (show tk l0 = ⟨(acc ++ [l.take n]) ++ (tk (l.drop n)).out, (tk (l.drop n)).hold, (tk (l.drop n)).fol, (tk (l.drop n)).ok⟩ by rw [HT.out, HX.out, List.append_assoc]; rfl)
        clear hRl hRz hlz h255 hlp hc0 he n3 hn h4
        go_wp2_with (first | (go_at_call 35; refine HNE.out.mono ?_; rintro _ w2 ⟨rfl, k2⟩; have HC2 := Lib.hid (HC.out.keeps k2); have HOW2 := Lib.hid (HOW.out.keeps k2); have HON2 := Lib.hid (HON.out.trans (Only.below k2)); clear k2; have hq2 := HC2.out.cell 1 rfl; have hwb : w.heap.size ≤ w2.heap.size := HON2.out.size) | (at_builtin; refine wp_pushE (T := rowT) rfl _ _ rfl (l.take n) #[.string P] (by rw [← HP.out]; rfl) w2.heap.size rfl HOW2.out rfl rfl HAC.out hwb 9 ?_; intro v3 w3 o3 g3 _; have HO3 := Lib.hid o3; have HC3 := Lib.hid (HC2.out.pushed HB.out HOW2.out g3); have HON3 := Lib.hid (HON2.out.pushed HOW2.out g3); clear o3 g3; have qc3 := HC3.out.cell 1 rfl; have fc3 := HC3.out.fz 1 (by show 1 < 7; decide)))
        go_roundw
        case rel => exact ⟨acc ++ [l.take n], l.drop n, HT2.out, HN12.out, HO3.out.only (show Only b w3 _ from Only.setCell w3 ⟨b, 1, none⟩ (.string R2)) (fun e => by have := HO3.out.block _ e; have := HB.out; omega), by rw [HR2.out]; exact HC3.out.set 1 (by show 1 < 7; decide) (.string R2), HON3.out.trans (Only.setCell _ ⟨b, 1, none⟩ _)⟩
        case measure =>
          have e1 := hz_of (World.cell?_setCell_same' w3 ⟨b, 1, none⟩ (.string R2) (by rw [qc3]; rfl))
          have e2 := HHZ.out
          have e3 := HR2z.out
          rw [HRR.out] at e2
          simp only [e1, e2]
          omega
    · have HX := Lib.hid (tk_bad h255 h3 he)
      obtain ⟨r, hr⟩ : ∃ r, (Sct.need l).2 = r := ⟨_, rfl⟩
      rw [hr] at HNE he
      have hrb : (r == 0) = false := by simpa using he
      clear hRl hRz hlz h255 hlp hc0 hr he
      go_wp2_with (first | (go_at_call 35; refine HNE.out.mono ?_; rintro _ w2 ⟨rfl, k2⟩; have HC2 := Lib.hid (HC.out.keeps k2); have HOW2 := Lib.hid (HOW.out.keeps k2); have HON2 := Lib.hid (HON.out.trans (Only.below k2)); clear k2) | (go_at_call 26; refine (rjlose_any HC2.out).mono ?_; rintro _ w3 ⟨⟨v3, rfl⟩, c3, o3⟩; have HC3 := Lib.hid c3; have HO3 := Lib.hid o3; clear c3 o3))
      go_ret2
      exact TkPost.of HT.out HX.out rfl (HOW2.out.only HO3.out fun e => by have := HOW2.out.block _ e; have := HB.out; omega) HC3.out (HON2.out.trans HO3.out)
end Go.Proofs.YtifbomppgflkfaaDoor
