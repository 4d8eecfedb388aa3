/-
  What the document's Loop and Parse answer. The memory that was there stays.
-/
import Derived.Test.YtlghkdkaifcliaaDoorDsP
namespace Go.Proofs.YtlghkdkaifcliaaDoor
open Go.RowKit Gf Ds
set_option maxRecDepth 100000
set_option linter.unusedVariables false
theorem once_kmix {wr W : World} {P : World → Prop} {n : Nat} {L : Nat → Bool} (h : Once n (Eqv wr) (fun W => Keeps wr W ∧ P W) L W) : Keeps wr W := by
  cases e : L n
  · exact (Keeps.refl wr).eqv (h.1 e)
  · exact (h.2 e).1
def DlPost (w : World) (q : List UInt8 × Int) (e : Ending) (w' : World) : Prop := e = .returned (.tuple #[.string (st q.1), .int .i64 q.2]) ∧ Keeps w w'
theorem DlPost.of {w W : World} {q : List UInt8 × Int} {s : ByteArray} {t : List UInt8} {n : Int} (h : q = (t, n)) (hs : s = st t) (k : Keeps w W) : DlPost w q (.returned (.tuple #[.string s, .int .i64 n])) W := by subst h hs; exact ⟨rfl, k⟩
def drlRel (w : World) (l : List Dsc) (o j : Value) (wr : World) : Prop := ∃ k : Nat, k ≤ l.length ∧ o = .string (st (lpB (l.take k))) ∧ j = .int .i64 (k : Int) ∧ (∀ d ∈ l.take k, okD d) ∧ Keeps w wr
theorem lpB_bound : ∀ {l : List Dsc}, (∀ d ∈ l, okD d) → (lpB l).length ≤ 257 * l.length
  | [], _ => Nat.le_refl _
  | d :: l, h => by
    have h1 := (h d (List.mem_cons_self ..)).2
    have h2 := lpB_bound fun x hx => h x (List.mem_cons_of_mem _ hx)
    have h3 := dsB_length d
    show (dsB d ++ lpB l).length ≤ _
    rw [List.length_append, List.length_cons]; omega
set_option maxHeartbeats 6400000 in
theorem drloop_any {a : Option Addr} {n cap : Nat} {l : List Dsc} (w : World) (h : IsE rowR w a n l) (hn : n ≤ 10000) :
    Calls Tryd.prog 13 #[.slice a n cap] w (DlPost w (loop l)) := by
  have HI := Lib.hid h
  have HN := Lib.hid h.1
  clear h
  go_enter Tryd.func13, Tryd.ntmps13
  go_wp2
  go_loopw [4, 5] (fun o j wr => drlRel w l o j wr) (fun _ j _ => n - (intOf j).toNat)
  case atStart => exact ⟨0, Nat.zero_le _, rfl, rfl, fun d hd => by simp at hd, Keeps.refl _⟩
  case round =>
    obtain ⟨k, hk, rfl, rfl, hall, hkw⟩ := hrel
    rw [← HN.out] at hk
    have HK := Lib.hid hkw
    have HA := Lib.hid hall
    clear hkw
    by_cases hlt : k < n
    · have hlI : (k : Int) < (n : Int) := by omega
      have hkL : k < l.length := by have := HN.out; omega
      obtain ⟨g, off, rfl, hg, hcc⟩ := (HI.out.keeps HK.out).get hkL
      have hat := lpE_at hkL hall
      have hsn := lpB_take_succ l hkL
      have hbd := lpB_bound hall
      rw [List.length_take] at hbd
      have HN2 := Lib.hid (show okD l[k] → ∀ d ∈ l.take (k + 1), okD d from fun h d hd => by
        rw [List.take_add_one, List.getElem?_eq_getElem hkL] at hd
        rcases List.mem_append.1 hd with y | y
        · exact HA.out d y
        · rw [List.mem_singleton.1 y]; exact h)
      obtain ⟨⟨t1, t2⟩, hp⟩ : ∃ q : Dsc, l[k] = q := ⟨_, rfl⟩
      rw [hp] at hcc hat hsn HN2
      have c1 : wr.cell? ⟨g, off + k * 2, none⟩ = some (.int .i64 t1) := hcc 0 _ rfl
      have c2 : wr.cell? ⟨g, off + k * 2 + 1, none⟩ = some (.string t2) := by rw [Nat.add_assoc]; exact hcc 1 _ rfl
      have wr1 := wrapI (a := (k : Int) + 1) (by omega) (by omega)
      have HDI := Lib.hid (fun W => din_any t1 255 W)
      obtain ⟨O, hO⟩ : ∃ O, st (lpB (l.take k)) = O := ⟨_, rfl⟩
      have hOz : O.size ≤ 3000000 := by rw [← hO, st_size]; omega
      rw [hO]
      by_cases hT : 0 ≤ t1 ∧ t1 ≤ 255
      · by_cases hZ : t2.size ≤ 255
        · have hok : okD ⟨t1, t2⟩ := ⟨hT, hZ⟩
          have HNX := Lib.hid (HN2.out hok)
          simp only [decide_eq_true hT] at HDI
          have hzi : ¬ (255 : Int) < (t2.size : Int) := by omega
          obtain ⟨T, hTn⟩ : ∃ T : Nat, (T : Int) = t1 := ⟨t1.toNat, by omega⟩
          have HL := Lib.hid (show (#[.int .i64 t1, .int .i64 (t2.size : Int)] : Array Value) = ([Ds.u8 t1.toNat, Ds.u8 t2.size].map I64).toArray by
            simp only [List.map_cons, List.map_nil, I64, Ds.u8_nat (show t1.toNat < 256 by omega), Ds.u8_nat (show t2.size < 256 by omega)]
            rw [show ((t1.toNat : Nat) : Int) = t1 by omega])
          have HIN := Lib.hid (fun W : World => show Ints W.heap.size [Ds.u8 t1.toNat, Ds.u8 t2.size] (W.alloc (.cells #[.int .i64 t1, .int .i64 (t2.size : Int)] 3)) by rw [HL.out]; exact Ints.lit W _ _)
          have HTX := Lib.hid (fun (W : World) (h : Ints wr.heap.size [Ds.u8 t1.toNat, Ds.u8 t2.size] W) => dtext_any W wr.heap.size 2 2 [Ds.u8 t1.toNat, Ds.u8 t2.size] W rfl (by show 2 ≤ 1000; decide) h (Keeps.refl W))
          obtain ⟨X, hX⟩ : ∃ X, st [Ds.u8 t1.toNat, Ds.u8 t2.size] = X := ⟨_, rfl⟩
          have hXz : X.size = 2 := by rw [← hX]; rfl
          rw [hX] at HTX
          obtain ⟨Y, hY⟩ : ∃ Y, O ++ X = Y := ⟨_, rfl⟩
          have hYz : Y.size = O.size + 2 := by rw [← hY, ByteArray.size_append, hXz]
          obtain ⟨Z, hZe⟩ : ∃ Z, Y ++ t2 = Z := ⟨_, rfl⟩
          have HZ := Lib.hid (show Z = st (lpB (l.take (k + 1))) by
            rw [← hZe, ← hY, ← hX, ← hO, hsn]
            show st _ ++ st _ ++ t2 = st (_ ++ ([Ds.u8 t1.toNat, Ds.u8 t2.size] ++ ls t2))
            rw [st_append, ← List.append_assoc, ← st_append (lpB (l.take k) ++ [Ds.u8 t1.toNat, Ds.u8 t2.size]), st_ls])
          obtain ⟨L2, hL2⟩ : ∃ L2, [Ds.u8 t1.toNat, Ds.u8 t2.size] = L2 := ⟨_, rfl⟩
          simp only [hL2] at HTX HIN
          have HP1 := Lib.hid (fun W (q : Keeps wr W) => show W.cell? ⟨g, off + k * 2, none⟩ = some (.int .i64 t1) from (Below.cell q (p := ⟨g, off + k * 2, none⟩) hg).trans c1)
          have HP2 := Lib.hid (fun W (q : Keeps wr W) => show W.cell? ⟨g, off + k * 2 + 1, none⟩ = some (.string t2) from (Below.cell q (p := ⟨g, off + k * 2 + 1, none⟩) hg).trans c2)
          have f1 : ¬ 9223372036854775807 < O.size + 2 := by omega
          have f2 : ¬ 9223372036854775807 < O.size + 2 + t2.size := by omega
          clear hcc hat hsn hp hX hO hL2 hok hg hTn hbd
          go_wp2_with (go_at_call 42; refine (HDI.out _).mono ?_; rintro _ w1 ⟨rfl, rfl⟩)
          refine wp_draw_tail 21 (by kernel_rfl) [.string O, .slice (some ⟨g, off, none⟩) n cap, .int .i64 (k : Int), .pointer (some ⟨g, off + k * 2, none⟩), .pointer (some ⟨g, off + k * 2, none⟩), .int .i64 t1, .slice (some ⟨g, off, none⟩) n cap, .int .i64 (k : Int), .pointer (some ⟨g, off + k * 2, none⟩), .pointer (some ⟨g, off + k * 2 + 1, none⟩), .string t2, .int .i64 (t2.size : Int), .slice (some ⟨wr.heap.size, 0, none⟩) 2 2, .string X, .string Y, .slice (some ⟨g, off, none⟩) n cap, .int .i64 (k : Int), .pointer (some ⟨g, off + k * 2, none⟩), .pointer (some ⟨g, off + k * 2 + 1, none⟩), .string t2, .string Z]
            (Once 12 (Eqv wr) (fun W => Keeps wr W ∧ Ints wr.heap.size L2 W)) rfl (by kernel_rfl) (by kernel_rfl) (fin := ?fin0) ?hfin0 (Once.start (Eqv.drew wr)) ?each0 ?hend0
          case hfin0 => simp [seqA, dstOf, Act.put]; rfl
          case each0 =>
            refine ⟨?_, ?_, ?_, ?_, ?_, ?_, ?_, ?_, ?_, ?_, ?_, ?_, ?_, ?_, ?_, ?_, ?_, ?_, ?_, ?_, ?_, trivial⟩
            all_goals intro L w5 h0 hd hs hw
            all_goals unfold Does
            all_goals try simp only [Nat.zero_add, Nat.reduceAdd] at h0
            rotate_left 12
            · have hE := hw.1 h0
              have hz := hE.size
              go_simp
              refine fun L' k => Once.done k ⟨((Keeps.refl wr).eqv hE).alloc _, ?_⟩
              have := HIN.out w5
              rwa [hz] at this
            · have h12 := hd 12 (by kernel_rfl)
              have hB := hw.2 h12
              go_simp
              refine (HTX.out w5 hB.2).mono ?_
              rintro e w8 ⟨rfl, k8⟩
              exact ⟨_, rfl, rfl, fun L' k => ⟨fun h => (by rw [(k 12).2 (.inl h12)] at h; cases h), fun _ => ⟨hB.1.trans k8, hB.2.keeps k8⟩⟩⟩
            all_goals have hke := once_kmix hw
            all_goals have c1 := HP1.out w5 hke
            all_goals have c2 := HP2.out w5 hke
            all_goals go_simp
            all_goals exact fun L' k => hw.same (by decide) k
          case hend0 =>
          intro L w5 hL hw
          have HK5 := Lib.hid (HK.out.trans (hw.2 (hL 12 (by omega))).1)
          clear hL hw c1 c2
          simp only [List.drop_succ_cons, List.drop_zero]
          go_wp2
          go_roundw
          case rel => exact ⟨k + 1, by have := HN.out; omega, by rw [HZ.out], by go_num, HNX.out, HK5.out⟩
          case measure => simp [intOf]; omega
        · have hde : dsE ⟨t1, t2⟩ = 11 := by unfold dsE; rw [if_neg (fun x => x hT), if_pos (by show 255 < t2.size; omega)]
          rw [hde] at hat
          have HF := Lib.hid (show loop l = ([], 11) by unfold loop; rw [hat (by decide), if_pos (by decide)])
          simp only [decide_eq_true hT] at HDI
          have hzi : (255 : Int) < (t2.size : Int) := by omega
          clear hcc hat hsn hp hde hO hg hbd hZ
          go_wp2_with (go_at_call 42; refine (HDI.out _).mono ?_; rintro _ w1 ⟨rfl, rfl⟩)
          go_ret2
          exact DlPost.of HF.out rfl HK.out
      · have hde : dsE ⟨t1, t2⟩ = 15 := by unfold dsE; rw [if_pos hT]
        rw [hde] at hat
        have HF := Lib.hid (show loop l = ([], 15) by unfold loop; rw [hat (by decide), if_pos (by decide)])
        simp only [decide_eq_false hT] at HDI
        clear hcc hat hsn hp hde hO hg hbd hT
        go_wp2_with (go_at_call 42; refine (HDI.out _).mono ?_; rintro _ w1 ⟨rfl, rfl⟩)
        go_ret2
        exact DlPost.of HF.out rfl HK.out
    · have hlI : ¬ (k : Int) < (n : Int) := by omega
      have hf : l.take k = l := List.take_of_length_le (by have := HN.out; omega)
      rw [hf] at hall ⊢
      have he := lpE_ok.2 hall
      obtain ⟨O, hO⟩ : ∃ O, st (lpB l) = O := ⟨_, rfl⟩
      have hOz : O.size = (lpB l).length := by rw [← hO, st_size]
      have HO := Lib.hid hO
      rw [hO]
      by_cases hz : 4095 < (lpB l).length
      · have HF := Lib.hid (show loop l = ([], 11) by unfold loop; rw [if_neg (fun x => x he), if_pos hz])
        have hzi : (4095 : Int) < (O.size : Int) := by omega
        clear hf he hO hOz hz hall
        go_wp2
        go_ret2
        exact DlPost.of HF.out rfl HK.out
      · have HF := Lib.hid (show loop l = (lpB l, 0) by unfold loop; rw [if_neg (fun x => x he), if_neg hz])
        have hzi : ¬ (4095 : Int) < (O.size : Int) := by omega
        clear hf he hO hOz hz hall
        go_wp2
        go_ret2
        exact DlPost.of HF.out HO.out.symm HK.out
def DpPost (w : World) (q : List Dsc × Int) (e : Ending) (w' : World) : Prop := ∃ a cap, e = .returned (.tuple #[.slice a q.1.length cap, .int .i64 q.2]) ∧ IsE rowR w' a q.1.length q.1 ∧ q.1.length ≤ cap ∧ (∀ x, a = some x → w.heap.size ≤ x.block) ∧ Keeps w w'
theorem DpPost.no {w W : World} {q : List Dsc × Int} {n : Int} (h : q = ([], n)) (k : Keeps w W) : DpPost w q (.returned (.tuple #[.slice none 0 0, .int .i64 n])) W := by
  subst h; exact ⟨none, 0, rfl, IsE.nil _ _, Nat.le_refl _, fun x hx => (by cases hx), k⟩
theorem prs_at {S : List UInt8} {A : Nat} (h : A < S.length) (h2 : ¬ S.length < A + 2) (h3 : ¬ S.length < A + 2 + (cf S (A + 1)).toNat) :
    prs (S.drop A) = (prs (S.drop (A + 2 + (cf S (A + 1)).toNat))).map fun l => ⟨((cf S A).toNat : Int), st ((S.drop (A + 2)).take (cf S (A + 1)).toNat)⟩ :: l := by
  have e0 : cf (S.drop A) 0 = cf S A := by rw [cf_drop, Nat.add_zero]
  have e1 : cf (S.drop A) 1 = cf S (A + 1) := by rw [cf_drop]
  rw [prs_go (by rw [List.length_drop]; omega) (by rw [List.length_drop, e1]; omega), e0, e1, List.drop_drop, List.drop_drop, show A + (2 + (cf S (A + 1)).toNat) = A + 2 + (cf S (A + 1)).toNat by omega]
def dprRel (w : World) (S : List UInt8) (o j : Value) (wr : World) : Prop :=
  ∃ (A : Nat) (acc : List Dsc), A ≤ S.length ∧ j = .int .i64 (A : Int) ∧ prs S = (prs (S.drop A)).map (acc ++ ·) ∧ acc.length ≤ A ∧ OwnE rowR wr w.heap.size o acc ∧ Keeps w wr
set_option maxHeartbeats 6400000 in
theorem drparse_any (s : ByteArray) (w : World) (hs : s.size ≤ 1000000) : Calls Tryd.prog 16 #[.string s] w (DpPost w (parse (ls s))) := by
  have hl := ls_size s
  by_cases hlong : 4095 < (ls s).length
  · have HF := Lib.hid (parse_long hlong)
    have hi : (4095 : Int) < (s.size : Int) := by omega
    clear hl hlong
    go_enter Tryd.func16, Tryd.ntmps16
    go_wp2
    go_ret2
    exact DpPost.no HF.out (Keeps.refl w)
  have HNL := Lib.hid hlong
  have hi : ¬ (4095 : Int) < (s.size : Int) := by omega
  have HL := Lib.hid hl
  clear hl hlong
  go_enter Tryd.func16, Tryd.ntmps16
  go_wp2
  go_loopw [4, 5] (fun o j wr => dprRel w (ls s) o j wr) (fun _ j _ => s.size - (intOf j).toNat)
  case atStart => exact ⟨0, [], Nat.zero_le _, rfl, (by rw [List.drop_zero]; cases prs (ls s) <;> rfl), Nat.le_refl _, OwnE.nil _ _, Keeps.refl _⟩
  case round =>
    obtain ⟨A, acc, hA, rfl, hp, hal, hown, hkw⟩ := hrel
    rw [← HL.out] at hA
    have HP := Lib.hid hp
    have HO := Lib.hid hown
    have HK := Lib.hid hkw
    have HAC := Lib.hid hal
    clear hp hown hkw hal
    by_cases hlt : A < s.size
    · have hlI : (A : Int) < (s.size : Int) := by omega
      have hal : A < (ls s).length := by have := HL.out; omega
      obtain ⟨A1, hA1⟩ : ∃ A1 : Nat, A1 = A + 1 := ⟨_, rfl⟩
      have hI1 : (A : Int) + 1 = (A1 : Int) := by omega
      have wr1 := wrapI (a := (A1 : Int)) (by omega) (by omega)
      by_cases h2 : A1 < s.size
      · have t1 : ¬ (s.size : Int) ≤ (A1 : Int) := by omega
        have t1b : (A1 : Int) < (s.size : Int) := by omega
        obtain ⟨c1, hc1⟩ : ∃ c, cf (ls s) A1 = c := ⟨_, rfl⟩
        have g1 := ls_get s A1 h2
        rw [hc1] at g1
        obtain ⟨N, hN⟩ : ∃ N, c1.toNat = N := ⟨_, rfl⟩
        have hN255 : N ≤ 255 := by have := c1.toNat_lt; omega
        have e8 : (N : Int) % 256 = (N : Int) := by omega
        have wrN := wrapI (a := (N : Int)) (by omega) (by omega)
        obtain ⟨A2, hA2⟩ : ∃ A2 : Nat, A2 = A + 2 := ⟨_, rfl⟩
        have hI2 : (A : Int) + 2 = (A2 : Int) := by omega
        have wr2 := wrapI (a := (A2 : Int)) (by omega) (by omega)
        obtain ⟨A3, hA3⟩ : ∃ A3 : Nat, A3 = A2 + N := ⟨_, rfl⟩
        have hI3 : (A2 : Int) + (N : Int) = (A3 : Int) := by omega
        have wr3 := wrapI (a := (A3 : Int)) (by omega) (by omega)
        by_cases h3 : s.size < A3
        · have HF := Lib.hid (show parse (ls s) = ([], 10) by
            refine parse_none HNL.out ?_
            have e1 : cf ((ls s).drop A) 1 = c1 := by rw [cf_drop, ← hA1, hc1]
            rw [HP.out, prs_short (by rw [List.length_drop]; have := HL.out; omega) (by rw [List.length_drop, e1, hN]; have := HL.out; omega)]; rfl)
          have t2 : (s.size : Int) < (A3 : Int) := by omega
          clear hc1 hA1 hA2 hA3 hA hal h3
          go_wp2
          go_ret2
          exact DpPost.no HF.out HK.out
        · have t2 : ¬ (s.size : Int) < (A3 : Int) := by omega
          have t3 : (A3 : Int) ≤ (s.size : Int) := by omega
          have t4 : (A2 : Int) ≤ (A3 : Int) := by omega
          have t5 : A2 ≤ A3 := by omega
          have t6 : A3 ≤ s.size := by omega
          obtain ⟨c0, hc0⟩ : ∃ c, cf (ls s) A = c := ⟨_, rfl⟩
          have g0 := ls_get s A hlt
          rw [hc0] at g0
          have b0 := u8_bd c0
          have e9 : (c0.toNat : Int) % 256 = (c0.toNat : Int) := by omega
          have wrc := wrapI (a := (c0.toNat : Int)) (by omega) (by omega)
          obtain ⟨Bd, hBd⟩ : ∃ B, s.extract A2 A3 = B := ⟨_, rfl⟩
          have HSTEP := Lib.hid (show prs (ls s) = (prs ((ls s).drop A3)).map ((acc ++ [⟨(c0.toNat : Int), Bd⟩]) ++ ·) by
            have e := prs_at (S := ls s) hal (by have := HL.out; omega) (by rw [← hA1, hc1, hN]; have := HL.out; omega)
            rw [← hA1, hc1, hN, hc0, ← hA2, ← hA3] at e
            have eb : st (((ls s).drop A2).take N) = Bd := by rw [← hBd, ← st_ls (s.extract A2 A3), ls_part, show A3 - A2 = N by omega]
            rw [eb] at e
            rw [HP.out, e]
            cases prs ((ls s).drop A3) with
            | none => rfl
            | some l => simp)
          have HLN := Lib.hid (show (acc ++ [(⟨(c0.toNat : Int), Bd⟩ : Dsc)]).length ≤ A3 by rw [List.length_append]; have := HAC.out; simp only [List.length_singleton]; omega)
          have HAB := Lib.hid (show acc.length ≤ 100000000 by have := HAC.out; omega)
          obtain ⟨av, cs, hv, _, _⟩ := HO.out.row16
          obtain ⟨m, hm⟩ : ∃ m, acc.length = m := ⟨_, rfl⟩
          rw [hm] at hv
          subst hv
          obtain ⟨X, hX⟩ : ∃ X : Obj, X = .cells #[.int .i64 (c0.toNat : Int), .string Bd] 44 := ⟨_, rfl⟩
          have HXX := Lib.hid hX
          have HA3 := Lib.hid (show A3 ≤ (ls s).length ∧ s.size - A3 < s.size - A by have := HL.out; omega)
          clear hX hc1 hA1 hA2 hA3 hA hal h3 hc0 hm
          go_wp2
          refine wp_draw_tail 15 (by kernel_rfl) [.slice av m cs, .string s, .int .i64 (A : Int), .int .u8 (c0.toNat : Int), .int .i64 (c0.toNat : Int), .string s, .int .i64 (A : Int), .int .i64 (A2 : Int), .int .i64 (A : Int), .int .i64 (A2 : Int), .int .i64 (N : Int), .int .i64 (A3 : Int), .string Bd, dsV ⟨(c0.toNat : Int), Bd⟩, .slice (some ⟨wr.heap.size, 0, none⟩) 1 1]
            (Once 14 (Eqv wr) (Eqv (wr.alloc X))) rfl (by kernel_rfl) (by kernel_rfl) (fin := ?fin0) ?hfin0 (Once.start (Eqv.drew wr)) ?each0 ?hend0
          case hfin0 => simp [seqA, dstOf, Act.put]; rfl
          case each0 =>
            refine ⟨?_, ?_, ?_, ?_, ?_, ?_, ?_, ?_, ?_, ?_, ?_, ?_, ?_, ?_, ?_, trivial⟩
            all_goals intro L w5 h0 hd hs hw
            all_goals unfold Does
            all_goals try simp only [Nat.zero_add, Nat.reduceAdd] at h0
            rotate_left 14
            · have hA := hw.1 h0
              have hz := hA.size
              go_simp
              exact fun L' k => Once.done k (by rw [HXX.out]; exact hA.alloc _)
            all_goals go_simp
            all_goals exact fun L' k => hw.same (by decide) k
          case hend0 =>
          intro L w5 hL hw
          obtain ⟨w5, rfl, he⟩ := (hw.2 (hL 14 (by omega))).split
          clear hL hw
          rw [HXX.out, ← he.size]
          simp only [List.drop_succ_cons, List.drop_zero]
          have HO5 := Lib.hid (HO.out.eqv he)
          have HK5 := Lib.hid (HK.out.eqv he)
          clear he
          go_wp2_with (at_builtin; refine wp_pushE (T := rowR) rfl _ _ rfl ⟨(c0.toNat : Int), Bd⟩ #[.int .i64 (c0.toNat : Int), .string Bd] rfl w5.heap.size rfl HO5.out rfl rfl HAB.out (Below.size HK5.out) 44 ?_; intro v6 w6 o6 g6 _; have HO6 := Lib.hid o6; have HK6 := Lib.hid ((HK5.out.alloc _).grown g6 HO5.out.block); clear o6 g6)
          go_roundw
          case rel => exact ⟨A3, _, HA3.out.1, by go_num, HSTEP.out, HLN.out, HO6.out, HK6.out⟩
          case measure => have := HA3.out.2; simp [intOf]; omega
      · have HF := Lib.hid (show parse (ls s) = ([], 10) by
          refine parse_none HNL.out ?_
          rw [HP.out, prs_one (by intro e; have := congrArg List.length e; rw [List.length_drop, List.length_nil] at this; omega) (by rw [List.length_drop]; have := HL.out; omega)]; rfl)
        have t1 : (s.size : Int) ≤ (A1 : Int) := by omega
        clear hA1 hA hal h2
        go_wp2
        go_ret2
        exact DpPost.no HF.out HK.out
    · have hlI : ¬ (A : Int) < (s.size : Int) := by omega
      have HF := Lib.hid (show parse (ls s) = (acc, 0) by
        refine parse_some HNL.out ?_
        rw [HP.out, List.drop_of_length_le (by have := HL.out; omega), prs_nil]
        simp)
      obtain ⟨a2, c2, hv, hi2, hb2⟩ := HO.out.row16
      obtain ⟨a3, c3, hv3, _, hlc⟩ := HO.out.is
      rw [hv] at hv3
      simp only [Value.slice.injEq] at hv3
      obtain ⟨rfl, _, rfl⟩ := hv3
      have HPP := Lib.hid (fun (v : Value) (e : v = .slice a2 acc.length c2) => show DpPost w (acc, 0) (.returned (.tuple #[v, .int .i64 0])) wr from ⟨a2, c2, by rw [e], hi2, hlc, hb2, HK.out⟩)
      have HV := Lib.hid hv
      clear hv hi2 hb2 hlc
      go_wp2
      go_ret2
      rw [HF.out]
      exact HPP.out _ HV.out
end Go.Proofs.YtlghkdkaifcliaaDoor
