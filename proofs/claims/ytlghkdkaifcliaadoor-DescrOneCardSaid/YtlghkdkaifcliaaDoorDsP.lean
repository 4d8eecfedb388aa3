/-
  What Plain and same of layer 18's statements answer. The memory that was there stays.
-/
import Derived.Test.YtlghkdkaifcliaaDoorDsV
namespace Go.Proofs.YtlghkdkaifcliaaDoor
open Go.RowKit Gf Ds
set_option maxRecDepth 100000
set_option linter.unusedVariables false
theorem once_kds {wr W : World} {X : Obj} {n : Nat} {L : Nat → Bool} (h : Once n (Eqv wr) (Eqv (wr.alloc X)) L W) : Keeps wr W := by
  cases h4 : L n
  · exact (Keeps.refl wr).eqv (h.1 h4)
  · exact ((Keeps.refl wr).alloc X).eqv (h.2 h4)
def dplRel (w : World) (l : List Dsc) (o j : Value) (wr : World) : Prop := ∃ k : Nat, k ≤ l.length ∧ j = .int .i64 (k : Int) ∧ OwnE rowR wr w.heap.size o (l.take k) ∧ Keeps w wr
def DplPost (w : World) (l : List Dsc) (e : Ending) (w' : World) : Prop := ∃ a cap, e = .returned (.slice a l.length cap) ∧ IsE rowR w' a l.length l ∧ l.length ≤ cap ∧ (∀ x, a = some x → w.heap.size ≤ x.block) ∧ Keeps w w'
set_option maxHeartbeats 6400000 in
theorem dplain_any {a : Option Addr} {n cap : Nat} {l : List Dsc} (w : World) (h : IsE rowD w a n l) (hn : n ≤ 1000000) :
    Calls Tryd.prog 14 #[.slice a n cap] w (DplPost w l) := by
  have HI := Lib.hid h
  have HN := Lib.hid h.1
  clear h
  go_enter Tryd.func14, Tryd.ntmps14
  go_wp2
  go_loopw [3, 4] (fun o j wr => dplRel w l o j wr) (fun _ j _ => n - (intOf j).toNat)
  case atStart => exact ⟨0, Nat.zero_le _, rfl, OwnE.nil _ _, Keeps.refl _⟩
  case round =>
    obtain ⟨k, hk, rfl, hown, hkw⟩ := hrel
    rw [← HN.out] at hk
    have HO := Lib.hid hown
    have HK := Lib.hid hkw
    clear hown hkw
    by_cases hlt : k < n
    · have hlI : (k : Int) < (n : Int) := by omega
      have hkL : k < l.length := by have := HN.out; omega
      obtain ⟨g, off, rfl, hg, hcc⟩ := (HI.out.keeps HK.out).get hkL
      have hnl : (l.take k).length = k := by rw [List.length_take]; omega
      obtain ⟨av, cs, hv, _, _⟩ := HO.out.row16
      rw [hnl] at hv
      subst hv
      have HHL := Lib.hid hnl
      have HLX := Lib.hid (show l.take k ++ [l[k]] = l.take (k + 1) by rw [List.take_add_one, List.getElem?_eq_getElem hkL]; rfl)
      obtain ⟨⟨t1, t2⟩, hp⟩ : ∃ q : Dsc, l[k] = q := ⟨_, rfl⟩
      rw [hp] at hcc HLX
      have HP1 := Lib.hid (fun W (q : Keeps wr W) => show W.cell? ⟨g, off + k * 2, none⟩ = some (.int .i64 t1) from (Below.cell q (p := ⟨g, off + k * 2, none⟩) hg).trans (hcc 0 _ rfl))
      have HP2 := Lib.hid (fun W (q : Keeps wr W) => show W.cell? ⟨g, off + k * 2 + 1, none⟩ = some (.string t2) from (Below.cell q (p := ⟨g, off + k * 2 + 1, none⟩) hg).trans (by rw [Nat.add_assoc]; exact hcc 1 _ rfl))
      have wr1 := wrapI (a := (k : Int) + 1) (by omega) (by omega)
      obtain ⟨X, hX⟩ : ∃ X : Obj, X = .cells #[.int .i64 t1, .string t2] 44 := ⟨_, rfl⟩
      have HXX := Lib.hid hX
      clear hX hnl hcc hp hg
      go_wp2
      refine wp_draw_tail 13 (by kernel_rfl) [.slice av k cs, .slice (some ⟨g, off, none⟩) n cap, .int .i64 (k : Int), .pointer (some ⟨g, off + k * 2, none⟩), .pointer (some ⟨g, off + k * 2, none⟩), .int .i64 t1, .slice (some ⟨g, off, none⟩) n cap, .int .i64 (k : Int), .pointer (some ⟨g, off + k * 2, none⟩), .pointer (some ⟨g, off + k * 2 + 1, none⟩), .string t2, dsV ⟨t1, t2⟩, .slice (some ⟨wr.heap.size, 0, none⟩) 1 1]
        (Once 12 (Eqv wr) (Eqv (wr.alloc X))) rfl (by kernel_rfl) (by kernel_rfl) (fin := ?fin0) ?hfin0 (Once.start (Eqv.drew wr)) ?each0 ?hend0
      case hfin0 => simp [seqA, dstOf, Act.put]; rfl
      case each0 =>
        refine ⟨?_, ?_, ?_, ?_, ?_, ?_, ?_, ?_, ?_, ?_, ?_, ?_, ?_, trivial⟩
        all_goals intro L w5 h0 hd hs hw
        all_goals unfold Does
        all_goals try simp only [Nat.zero_add, Nat.reduceAdd] at h0
        rotate_left 12
        · have hA := hw.1 h0
          have hz := hA.size
          go_simp
          exact fun L' k => Once.done k (by rw [HXX.out]; exact hA.alloc _)
        all_goals have hke := once_kds hw
        all_goals have c1 := HP1.out w5 hke
        all_goals have c2 := HP2.out w5 hke
        all_goals go_simp
        all_goals exact fun L' k => hw.same (by decide) k
      case hend0 =>
      intro L w5 hL hw
      obtain ⟨w5, rfl, he⟩ := (hw.2 (hL 12 (by omega))).split
      clear hL hw
      rw [HXX.out, ← he.size]
      simp only [List.drop_succ_cons, List.drop_zero]
      have HO5 := Lib.hid (HO.out.eqv he)
      have HK5 := Lib.hid (HK.out.eqv he)
      clear he
      go_wp2_with (at_builtin; refine wp_pushE (T := rowR) rfl _ _ rfl ⟨t1, t2⟩ #[.int .i64 t1, .string t2] rfl w5.heap.size rfl HO5.out rfl rfl (by rw [HHL.out]; omega) (Below.size HK5.out) 44 ?_; intro v6 w6 o6 g6 _; have HO6 := Lib.hid o6; have HK6 := Lib.hid ((HK5.out.alloc _).grown g6 HO5.out.block); clear o6 g6)
      go_roundw
      case rel => exact ⟨k + 1, by have := HN.out; omega, by go_num, by rw [← HLX.out]; exact HO6.out, HK6.out⟩
      case measure => simp [intOf]; omega
    · have hlI : ¬ (k : Int) < (n : Int) := by omega
      have HF := Lib.hid (show l.take k = l from List.take_of_length_le (by have := HN.out; omega))
      rw [HF.out] at HO
      obtain ⟨a2, c2, hv, hi2, hb2⟩ := HO.out.row16
      obtain ⟨a3, c3, hv3, _, hlc⟩ := HO.out.is
      rw [hv] at hv3
      simp only [Value.slice.injEq] at hv3
      obtain ⟨rfl, _, rfl⟩ := hv3
      have HP := Lib.hid (fun (v : Value) (e : v = .slice a2 l.length c2) => show DplPost w l (.returned v) wr from ⟨a2, c2, by rw [e], hi2, hlc, hb2, HK.out⟩)
      have HV := Lib.hid hv
      clear hv hi2 hb2 hlc
      go_wp2
      go_ret
      exact HP.out _ HV.out
set_option maxHeartbeats 3200000 in
theorem dsame_any {a a' : Option Addr} {n cap cap' : Nat} {l : List Dsc} (w : World) (h : IsE rowD w a n l) (h' : IsE rowR w a' n l) (hn : n ≤ 1000000) :
    Calls Tryd.prog 17 #[.slice a n cap, .slice a' n cap'] w fun e w' => e = .returned (.bool true) ∧ Keeps w w' := by
  have HI := Lib.hid h
  have HJ := Lib.hid h'
  have HN := Lib.hid h.1
  clear h h'
  go_enter Tryd.func17, Tryd.ntmps17
  go_wp2
  go_loopw [5] (fun i wr => ∃ k : Nat, k ≤ n ∧ i = .int .i64 (k : Int) ∧ Eqv w wr) (fun i _ => n - (intOf i).toNat)
  case atStart => exact ⟨0, Nat.zero_le _, rfl, Eqv.refl _⟩
  case round =>
    obtain ⟨k, hk, rfl, hq⟩ := hrel
    have HQ := Lib.hid hq
    clear hq
    by_cases hlt : k < n
    · have hlI : (k : Int) < (n : Int) := by omega
      have hkL : k < l.length := by have := HN.out; omega
      obtain ⟨b1, o1, rfl, _, hr1⟩ := (HI.out.eqv HQ.out).get hkL
      obtain ⟨b2, o2, rfl, _, hr2⟩ := (HJ.out.eqv HQ.out).get hkL
      obtain ⟨⟨t1, t2⟩, hs⟩ : ∃ s, l[k] = s := ⟨_, rfl⟩
      rw [hs] at hr1 hr2
      have x0 : wr.cell? ⟨b1, o1 + k * 2, none⟩ = some (.int .i64 t1) := hr1 0 _ rfl
      have x1 : wr.cell? ⟨b1, o1 + k * 2 + 1, none⟩ = some (.string t2) := by rw [Nat.add_assoc]; exact hr1 1 _ rfl
      have y0 : wr.cell? ⟨b2, o2 + k * 2, none⟩ = some (.int .i64 t1) := hr2 0 _ rfl
      have y1 : wr.cell? ⟨b2, o2 + k * 2 + 1, none⟩ = some (.string t2) := by rw [Nat.add_assoc]; exact hr2 1 _ rfl
      have wr1 := wrapI (a := (k : Int) + 1) (by omega) (by omega)
      clear hr1 hr2 hs
      go_wp2
      go_quiet (fail)
      obtain ⟨w2, hw2⟩ : ∃ W, wr.drewN nq = W := ⟨_, rfl⟩
      have e2 : Eqv wr w2 := by rw [← hw2]; exact Eqv.drewN _ _
      rw [hw2]
      have HQ2 := Lib.hid (HQ.out.trans e2)
      clear hw2 e2 x0 x1 y0 y1
      go_wp2
      go_roundw
      case rel => exact ⟨k + 1, by omega, by go_num, HQ2.out⟩
      case measure => simp [intOf]; omega
    · have hlI : ¬ (k : Int) < (n : Int) := by omega
      go_wp2
      go_ret
      exact ⟨rfl, (Keeps.refl w).eqv HQ.out⟩
end Go.Proofs.YtlghkdkaifcliaaDoor
