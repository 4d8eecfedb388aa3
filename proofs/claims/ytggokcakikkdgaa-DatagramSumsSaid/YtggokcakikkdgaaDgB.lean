/-
  What Peek and Check of package datagram and of the document answer: for texts of up to a billion bytes. The memory that was there stays.
-/
import Derived.Test.YtggokcakikkdgaaDgA
import Derived.Test.YtggokcakikkdgaaWord
namespace Go.Proofs.Ytggokcakikkdgaa
open Go.RowKit Gf Dg
set_option maxRecDepth 100000
/-- What a beginning tells, as Go's struct. -/
abbrev hdV (v h l p : Int) : Value := .agg #[.int .i64 v, .int .i64 h, .int .i64 l, .int .i64 p]
def hdR (r : Hd × Int) : Value := .tuple #[hdV r.1.v r.1.h r.1.l r.1.p, .int .i64 r.2]
def HdPost (w0 : World) (r : Hd × Int) (e : Ending) (w' : World) : Prop := e = .returned (hdR r) ∧ Keeps w0 w'
set_option maxHeartbeats 800000 in
theorem dgmay_any (w0 : World) (v h l p least : Int) (w : World) (hk : Keeps w0 w) :
    Calls Try.prog 26 #[hdV v h l p, .int .i64 least] w (HdPost w0 (may ⟨v, h, l, p⟩ least)) := by
  have fin : ∀ (r : Hd × Int) (W : World), may ⟨v, h, l, p⟩ least = r → Keeps w0 W → HdPost w0 (may ⟨v, h, l, p⟩ least) (.returned (hdR r)) W := fun r W e k => by rw [e]; exact ⟨rfl, k⟩
  have HF := Lib.hid fin
  clear fin
  by_cases h1 : h < least
  · have HM := Lib.hid (show may ⟨v, h, l, p⟩ least = (z, 12) by unfold may; rw [if_pos (.inl h1)])
    go_enter Try.func26, Try.ntmps26
    go_wp2
    exact bodyPost_ret (v := .tuple #[hdV 0 0 0 0, .int .i64 12]) (by simp [results, Try.results26, go_sem]) rfl (HF.out (z, 12) _ HM.out ((hk.alloc _).alloc _))
  · by_cases h2 : l < h
    · have HM := Lib.hid (show may ⟨v, h, l, p⟩ least = (z, 12) by unfold may; rw [if_pos (.inr h2)])
      go_enter Try.func26, Try.ntmps26
      go_wp2
      exact bodyPost_ret (v := .tuple #[hdV 0 0 0 0, .int .i64 12]) (by simp [results, Try.results26, go_sem]) rfl (HF.out (z, 12) _ HM.out ((hk.alloc _).alloc _))
    · by_cases h3 : 4080 < l
      · have HM := Lib.hid (show may ⟨v, h, l, p⟩ least = (z, 15) by unfold may; rw [if_neg (by show ¬ (h < least ∨ l < h); omega), if_pos (by show l > 4080; omega)])
        go_enter Try.func26, Try.ntmps26
        go_wp2
        exact bodyPost_ret (v := .tuple #[hdV 0 0 0 0, .int .i64 15]) (by simp [results, Try.results26, go_sem]) rfl (HF.out (z, 15) _ HM.out ((hk.alloc _).alloc _))
      · have HM := Lib.hid (show may ⟨v, h, l, p⟩ least = (⟨v, h, l, p⟩, 0) by unfold may; rw [if_neg (by show ¬ (h < least ∨ l < h); omega), if_neg (by show ¬ l > 4080; omega)])
        go_enter Try.func26, Try.ntmps26
        go_wp2
        exact bodyPost_ret (v := .tuple #[hdV v h l p, .int .i64 0]) (by simp [results, Try.results26, go_sem]) rfl (HF.out (⟨v, h, l, p⟩, 0) _ HM.out ((hk.alloc _).alloc _))
/-- The number of two bytes. -/
theorem dgnumber_any (s : ByteArray) (a b : UInt8) (w : World) (hs : ls s = [a, b]) :
    Calls Try.prog 27 #[.string s] w fun e w' => e = .returned (.int .i64 ((a.toNat : Int) * 256 + (b.toNat : Int))) ∧ Eqv w w' := by
  obtain ⟨hz, h0, h1⟩ : s.size = 2 ∧ s.data[0]? = some a ∧ s.data[1]? = some b := by
    have e : s = st [a, b] := by rw [← hs, st_ls]
    subst e; exact ⟨rfl, rfl, rfl⟩
  have g0 : s[0] = a := by have e : s = st [a, b] := by rw [← hs, st_ls]
                           subst e; rfl
  have g1 : s[1] = b := by have e : s = st [a, b] := by rw [← hs, st_ls]
                           subst e; rfl
  clear h0 h1 hs
  have a0 := u8_bd a
  have b0 := u8_bd b
  have HJ := Lib.hid (i64_join 8 (a := (a.toNat : Int) * 256) (b := (b.toNat : Int)) (by omega) (by omega) (by omega) (by omega) (by omega) (by omega))
  go_enter Try.func27, Try.ntmps27
  go_wp2
  go_quiet (fail)
  go_wp2
  rw [HJ.out]
  go_ret
  exact ⟨rfl, Eqv.drewN _ _⟩
/-- A part of a text. -/
theorem two_part (s : ByteArray) (k : Nat) (h : k + 2 ≤ s.size) : ls (s.extract k (k + 2)) = [cf (ls s) k, cf (ls s) (k + 1)] := by
  rw [ls_part]
  rw [ls_size] at h
  refine list_ext_cf (by rw [List.length_take, List.length_drop]; simp; omega) fun i hi => ?_
  rw [List.length_take, List.length_drop] at hi
  unfold cf
  rw [List.getD_eq_getElem?_getD, List.getElem?_take_of_lt (by omega), List.getElem?_drop]
  have : i = 0 ∨ i = 1 := by omega
  rcases this with rfl | rfl <;> simp
theorem peek_nil {l : List UInt8} (h : l.length = 0) : peek l = (z, 10) := by unfold peek; rw [if_pos h]
theorem peek_kind {l : List UInt8} (h : ¬ l.length = 0) (h4 : ¬ n l 0 / 16 = 4) (h6 : ¬ n l 0 / 16 = 6) : peek l = (z, 14) := by unfold peek; rw [if_neg h, if_neg h4, if_neg h6]
theorem peek_s4 {l : List UInt8} (h : ¬ l.length = 0) (h4 : n l 0 / 16 = 4) (hs : l.length < 20) : peek l = (z, 10) := by unfold peek; rw [if_neg h, if_pos h4, if_pos hs]
theorem peek_s6 {l : List UInt8} (h : ¬ l.length = 0) (h4 : n l 0 / 16 = 6) (hs : l.length < 40) : peek l = (z, 10) := by unfold peek; rw [if_neg h, if_neg (by omega), if_pos h4, if_pos hs]
theorem peek_4 {l : List UInt8} (h : ¬ l.length < 20) (h4 : n l 0 / 16 = 4) : peek l = may (Dg.h4 l) 20 := by unfold peek; rw [if_neg (by omega), if_pos h4, if_neg h]
theorem peek_6 {l : List UInt8} (h : ¬ l.length < 40) (h4 : n l 0 / 16 = 6) : peek l = may (Dg.h6 l) 40 := by unfold peek; rw [if_neg (by omega), if_neg (by omega), if_pos h4, if_neg h]
/-- Block b holds such a struct, which may be written. -/
structure Hd4 (b : Nat) (d : Hd) (w : World) : Prop where
  c0 : w.cell? ⟨b, 0, none⟩ = some (.int .i64 d.v)
  c1 : w.cell? ⟨b, 1, none⟩ = some (.int .i64 d.h)
  c2 : w.cell? ⟨b, 2, none⟩ = some (.int .i64 d.l)
  c3 : w.cell? ⟨b, 3, none⟩ = some (.int .i64 d.p)
  f0 : w.frozen? ⟨b, 0, none⟩ = false
  f1 : w.frozen? ⟨b, 1, none⟩ = false
  f2 : w.frozen? ⟨b, 2, none⟩ = false
  f3 : w.frozen? ⟨b, 3, none⟩ = false
theorem Hd4.made (w : World) (d : Hd) (t : TypeId) : Hd4 w.heap.size d (w.alloc (.cells #[.int .i64 d.v, .int .i64 d.h, .int .i64 d.l, .int .i64 d.p] t)) := by
  constructor
  all_goals first | exact World.frozen?_alloc_new _ _ _ _ | (rw [World.cell?_alloc_new]; rfl)
theorem Hd4.new (w : World) : Hd4 w.heap.size z (w.alloc (.cells #[.int .i64 0, .int .i64 0, .int .i64 0, .int .i64 0] 24)) := Hd4.made w z _
theorem Hd4.eqv {b : Nat} {d : Hd} {w w' : World} (h : Hd4 b d w) (k : Eqv w w') : Hd4 b d w' :=
  ⟨(k.cell _).trans h.c0, (k.cell _).trans h.c1, (k.cell _).trans h.c2, (k.cell _).trans h.c3, (k.frozen _).trans h.f0, (k.frozen _).trans h.f1, (k.frozen _).trans h.f2, (k.frozen _).trans h.f3⟩
theorem there_of {w : World} {p : Addr} {v : Value} (h : w.cell? p = some v) : p.block < w.heap.size := by
  obtain ⟨o, ho, _⟩ := cells_of_cell h
  exact (Array.getElem?_eq_some_iff.1 ho).1
theorem Hd4.keeps {b : Nat} {d : Hd} {w w' : World} (h : Hd4 b d w) (k : Keeps w w') : Hd4 b d w' := by
  have hb : b < w.heap.size := there_of h.c0
  have kc : ∀ i, w'.cell? ⟨b, i, none⟩ = w.cell? ⟨b, i, none⟩ := fun i => Below.cell k (p := ⟨b, i, none⟩) hb
  have kf : ∀ i, w'.frozen? ⟨b, i, none⟩ = w.frozen? ⟨b, i, none⟩ := fun i => Below.frozen k (p := ⟨b, i, none⟩) hb
  exact ⟨(kc 0).trans h.c0, (kc 1).trans h.c1, (kc 2).trans h.c2, (kc 3).trans h.c3, (kf 0).trans h.f0, (kf 1).trans h.f1, (kf 2).trans h.f2, (kf 3).trans h.f3⟩
theorem Hd4.store {b : Nat} {d : Hd} {w : World} (h : Hd4 b d w) (r1 r2 r3 r4 : Int) : Hd4 b ⟨r1, r2, r3, r4⟩ ((((w.setCell ⟨b, 0, none⟩ (.int .i64 r1)).setCell ⟨b, 1, none⟩ (.int .i64 r2)).setCell ⟨b, 2, none⟩ (.int .i64 r3)).setCell ⟨b, 3, none⟩ (.int .i64 r4)) := by
  obtain ⟨q1, q2, q3, q4, f1, f2, f3, f4⟩ := h
  refine ⟨?_, ?_, ?_, ?_, by simp [f1], by simp [f2], by simp [f3], by simp [f4]⟩
  · rw [set_other (by decide), set_other (by decide), set_other (by decide)]; exact set_same q1
  · rw [set_other (by decide), set_other (by decide)]; exact set_same ((set_other (by decide)).trans q2)
  · rw [set_other (by decide)]; exact set_same ((set_other (by decide)).trans ((set_other (by decide)).trans q3))
  · exact set_same ((set_other (by decide)).trans ((set_other (by decide)).trans ((set_other (by decide)).trans q4)))
theorem Keeps.store {w0 w : World} {b : Nat} (h : Keeps w0 w) (r1 r2 r3 r4 : Int) (hb : w0.heap.size ≤ b) : Keeps w0 ((((w.setCell ⟨b, 0, none⟩ (.int .i64 r1)).setCell ⟨b, 1, none⟩ (.int .i64 r2)).setCell ⟨b, 2, none⟩ (.int .i64 r3)).setCell ⟨b, 3, none⟩ (.int .i64 r4)) :=
  ((((Only.setCell w ⟨b, 0, none⟩ _).trans (Only.setCell _ ⟨b, 1, none⟩ _)).trans (Only.setCell _ ⟨b, 2, none⟩ _)).trans (Only.setCell _ ⟨b, 3, none⟩ _)).keeps h hb
def PkPost (w0 : World) (l : List UInt8) : Ending → World → Prop := HdPost w0 (peek l)
theorem PkPost.of {w0 : World} {l : List UInt8} {r : Hd × Int} {W : World} (e : peek l = r) (k : Keeps w0 W) : PkPost w0 l (.returned (hdR r)) W := by unfold PkPost; rw [e]; exact ⟨rfl, k⟩
set_option maxHeartbeats 1600000 in
theorem dgpeek_any (w0 : World) (s : ByteArray) (w : World) (hs : s.size ≤ 1000000000) (hk : Keeps w0 w) :
    Calls Try.prog 10 #[.string s] w (PkPost w0 (ls s)) := by
  have hsz := ls_size s
  by_cases h0 : s.size = 0
  · have HM := Lib.hid (peek_nil (l := ls s) (by omega))
    have hE : s.toList = [] := by rw [ls_toList]; exact List.length_eq_zero_iff.1 (by omega)
    have hE2 : s.toList.isEmpty = true := by rw [hE]; rfl
    clear hsz hE
    go_enter Try.func10, Try.ntmps10
    go_wp2
    exact bodyPost_ret (v := .tuple #[hdV 0 0 0 0, .int .i64 10]) (by simp [results, Try.results10, go_sem]) rfl (PkPost.of HM.out (hk.alloc _))
  · have hE2 : s.toList.isEmpty = false := by
      rw [ls_toList]
      cases hq : ls s with
      | nil => rw [hq] at hsz; exact absurd hsz h0
      | cons _ _ => rfl
    have hpos : 0 < s.size := Nat.pos_of_ne_zero h0
    have g0 := ls_get s 0 hpos
    obtain ⟨c0, hc0⟩ : ∃ c, cf (ls s) 0 = c := ⟨_, rfl⟩
    have hn0 : n (ls s) 0 = (c0.toNat : Int) := by unfold n; rw [hc0]
    rw [hc0] at g0
    have b0 := u8_bd c0
    have HN0 := Lib.hid hn0
    have HSZ := Lib.hid hsz
    clear hc0 hn0 hsz
    by_cases h4 : (c0.toNat : Int) / 16 = 4
    · by_cases h20 : s.size < 20
      · have HM := Lib.hid (peek_s4 (l := ls s) (by rw [← HSZ.out]; exact h0) (by rw [HN0.out]; exact h4) (by rw [← HSZ.out]; exact h20))
        go_enter Try.func10, Try.ntmps10
        go_wp2
        exact bodyPost_ret (v := .tuple #[hdV 0 0 0 0, .int .i64 10]) (by simp [results, Try.results10, go_sem]) rfl (PkPost.of HM.out (hk.alloc _))
      · have HM := Lib.hid (peek_4 (l := ls s) (by rw [← HSZ.out]; exact h20) (by rw [HN0.out]; exact h4))
        obtain ⟨c2, hc2⟩ : ∃ c, cf (ls s) 2 = c := ⟨_, rfl⟩
        obtain ⟨c3, hc3⟩ : ∃ c, cf (ls s) 3 = c := ⟨_, rfl⟩
        obtain ⟨c9, hc9⟩ : ∃ c, cf (ls s) 9 = c := ⟨_, rfl⟩
        have h9 : 9 < s.size := by omega
        have g9 := ls_get s 9 h9
        rw [hc9] at g9
        have HP := Lib.hid (show ls (s.extract 2 4) = [c2, c3] by rw [two_part s 2 (by omega), hc2, hc3])
        have hM := u8_mask 4 c0 (m := 15) rfl (by omega)
        obtain ⟨M, hMM⟩ : ∃ M : Int, ((c0.toNat % 2 ^ 4 : Nat) : Int) = M := ⟨_, rfl⟩
        rw [hMM] at hM
        have hM0 : 0 ≤ M := by omega
        have hM1 : M ≤ 15 := by omega
        have HD := Lib.hid (show Dg.h4 (ls s) = ⟨4, M * 4, (c2.toNat : Int) * 256 + (c3.toNat : Int), (c9.toNat : Int)⟩ by
          unfold Dg.h4
          rw [HN0.out]
          unfold n
          rw [hc2, hc3, hc9, ← hMM]
          have : (c0.toNat : Int) % 16 = ((c0.toNat % 2 ^ 4 : Nat) : Int) := by omega
          rw [this])
        have b9 := u8_bd c9
        clear hc2 hc3 hc9 hMM
        obtain ⟨L, hL⟩ : ∃ L : Int, (c2.toNat : Int) * 256 + (c3.toNat : Int) = L := ⟨_, rfl⟩
        obtain ⟨P9, hP9⟩ : ∃ P9 : Int, (c9.toNat : Int) = P9 := ⟨_, rfl⟩
        rw [hL, hP9] at HD
        have HNU := Lib.hid (show ∀ W : World, Calls Try.prog 27 #[.string (s.extract 2 4)] W fun e w' => e = .returned (.int .i64 L) ∧ Eqv W w' by
          intro W; rw [← hL]; exact dgnumber_any _ c2 c3 W HP.out)
        rw [hP9] at b9
        clear hL
        go_enter Try.func10, Try.ntmps10
        go_wp2
        obtain ⟨⟨⟨r1, r2, r3, r4⟩, r5⟩, hr⟩ : ∃ r, may ⟨4, M * 4, L, P9⟩ 20 = r := ⟨_, rfl⟩
        have HMY := Lib.hid (show ∀ W : World, Calls Try.prog 26 #[hdV 4 (M * 4) L P9, .int .i64 20] W fun e w' => e = .returned (.tuple #[hdV r1 r2 r3 r4, .int .i64 r5]) ∧ Keeps W w' by
          intro W
          have := dgmay_any W 4 (M * 4) L P9 20 W (Keeps.refl _)
          rw [hr] at this
          exact this)
        have HR := Lib.hid (show peek (ls s) = (⟨r1, r2, r3, r4⟩, r5) by rw [HM.out, HD.out, hr])
        clear hr
        obtain ⟨b, hb⟩ : ∃ b, w.heap.size = b := ⟨_, rfl⟩
        have hB := Hd4.new w
        have hkA := hk.alloc (.cells #[.int .i64 0, .int .i64 0, .int .i64 0, .int .i64 0] 24)
        have HB0 := Lib.hid (show w0.heap.size ≤ b by rw [← hb]; exact Below.size hk)
        obtain ⟨wA, hwA⟩ : ∃ wA, w.alloc (.cells #[.int .i64 0, .int .i64 0, .int .i64 0, .int .i64 0] 24) = wA := ⟨_, rfl⟩
        rw [hwA] at hB hkA
        rw [hb] at hB
        have HWA := Lib.hid (show Keeps w0 wA ∧ Hd4 b z wA from ⟨hkA, hB⟩)
        rw [hwA, hb]
        clear hwA hB hkA hb hk
        have i9 : (9 : Int) < (s.size : Int) := by omega
        have i4 : (4 : Int) ≤ (s.size : Int) := by omega
        have w1 := wrapI (a := M) (by omega) (by omega)
        have w2 := wrapI (a := M * 4) (by omega) (by omega)
        have w3 := wrapI (a := P9) (by omega) (by omega)
        refine wp_draw (by kernel_rfl)
          [.string s, .int .u8 (c0.toNat : Int), .int .u8 M, .int .i64 M, .int .i64 (M * 4), .string s, .string (s.extract 2 4), .int .i64 L, .string s, .int .u8 P9, .int .i64 P9, hdV 4 (M * 4) L P9,
            .tuple #[hdV r1 r2 r3 r4, .int .i64 r5], hdV r1 r2 r3 r4, .int .i64 r5, undef, .int .i64 r5]
          (Once 15 (fun W => Keeps w0 W ∧ Hd4 b z W) (fun W => Keeps w0 W ∧ Hd4 b ⟨r1, r2, r3, r4⟩ W))
          rfl (by kernel_rfl) (fin := ?fin) ?hfin (Once.start ⟨HWA.out.1.eqv (Eqv.drew wA), HWA.out.2.eqv (Eqv.drew wA)⟩) ?each ?hend
        case hfin => simp [seqA, dstOf, Act.put]; rfl
        case each =>
          refine ⟨?_, ?_, ?_, ?_, ?_, ?_, ?_, ?_, ?_, ?_, ?_, ?_, ?_, ?_, ?_, ?_, ?_, trivial⟩
          all_goals intro L5 w5 h0 hd hs hw
          all_goals try simp only [Nat.zero_add, Nat.reduceAdd] at h0
          all_goals unfold Does
          rotate_left 15
          · obtain ⟨hkk, q1, q2, q3, q4, f1, f2, f3, f4⟩ := hw.1 h0
            have hst := (hw.1 h0).2.store r1 r2 r3 r4
            have hks := hkk.store r1 r2 r3 r4 HB0.out
            go_simp
            exact fun L' k => Once.done k ⟨hks, hst⟩
          rotate_left 8
          · go_simp
            refine (HNU.out w5).mono ?_
            rintro e w6 ⟨rfl, he6⟩
            exact ⟨_, rfl, rfl, fun L' k => hw.keep (by decide) k (fun h => ⟨h.1.eqv he6, h.2.eqv he6⟩) (fun h => ⟨h.1.eqv he6, h.2.eqv he6⟩)⟩
          rotate_left 4
          · go_simp
            refine (HMY.out w5).mono ?_
            rintro e w6 ⟨rfl, he6⟩
            exact ⟨_, rfl, rfl, fun L' k => hw.keep (by decide) k (fun h => ⟨h.1.trans he6, h.2.keeps he6⟩) (fun h => ⟨h.1.trans he6, h.2.keeps he6⟩)⟩
          all_goals go_simp
          all_goals exact fun L' k => hw.same (by decide) k
        case hend =>
          intro L5 w5 hL5 hw
          obtain ⟨hk5, q1, q2, q3, q4, f1, f2, f3, f4⟩ := hw.2 (hL5 15 (by simp))
          have HK5 := Lib.hid hk5
          clear hL5 w1 w2 w3 i9 hw hk5
          go_wp2
          exact bodyPost_ret (v := .tuple #[hdV r1 r2 r3 r4, .int .i64 r5]) (by simp [results, Try.results10, go_sem, q1, q2, q3, q4]) rfl (PkPost.of HR.out HK5.out)
    · by_cases h6 : (c0.toNat : Int) / 16 = 6
      · by_cases h40 : s.size < 40
        · have HM := Lib.hid (peek_s6 (l := ls s) (by rw [← HSZ.out]; exact h0) (by rw [HN0.out]; exact h6) (by rw [← HSZ.out]; exact h40))
          go_enter Try.func10, Try.ntmps10
          go_wp2
          exact bodyPost_ret (v := .tuple #[hdV 0 0 0 0, .int .i64 10]) (by simp [results, Try.results10, go_sem]) rfl (PkPost.of HM.out (hk.alloc _))
        · have HM := Lib.hid (peek_6 (l := ls s) (by rw [← HSZ.out]; exact h40) (by rw [HN0.out]; exact h6))
          obtain ⟨c4, hc4⟩ : ∃ c, cf (ls s) 4 = c := ⟨_, rfl⟩
          obtain ⟨c5, hc5⟩ : ∃ c, cf (ls s) 5 = c := ⟨_, rfl⟩
          obtain ⟨c6, hc6⟩ : ∃ c, cf (ls s) 6 = c := ⟨_, rfl⟩
          have h9 : 6 < s.size := by omega
          have g9 := ls_get s 6 h9
          rw [hc6] at g9
          have HP := Lib.hid (show ls (s.extract 4 6) = [c4, c5] by rw [two_part s 4 (by omega), hc4, hc5])
          have b4 := u8_bd c4
          have b5 := u8_bd c5
          have HD := Lib.hid (show Dg.h6 (ls s) = ⟨6, 40, 40 + ((c4.toNat : Int) * 256 + (c5.toNat : Int)), (c6.toNat : Int)⟩ by
            unfold Dg.h6
            unfold n
            rw [hc4, hc5, hc6])
          have b9 := u8_bd c6
          clear hc4 hc5 hc6
          obtain ⟨L, hL⟩ : ∃ L : Int, (c4.toNat : Int) * 256 + (c5.toNat : Int) = L := ⟨_, rfl⟩
          have hL0 : 0 ≤ L ∧ L ≤ 65535 := by omega
          obtain ⟨P9, hP9⟩ : ∃ P9 : Int, (c6.toNat : Int) = P9 := ⟨_, rfl⟩
          rw [hL, hP9] at HD
          have HNU := Lib.hid (show ∀ W : World, Calls Try.prog 27 #[.string (s.extract 4 6)] W fun e w' => e = .returned (.int .i64 L) ∧ Eqv W w' by
            intro W; rw [← hL]; exact dgnumber_any _ c4 c5 W HP.out)
          rw [hP9] at b9
          clear hL b4 b5
          go_enter Try.func10, Try.ntmps10
          go_wp2
          obtain ⟨⟨⟨r1, r2, r3, r4⟩, r5⟩, hr⟩ : ∃ r, may ⟨6, 40, 40 + L, P9⟩ 40 = r := ⟨_, rfl⟩
          have HMY := Lib.hid (show ∀ W : World, Calls Try.prog 26 #[hdV 6 40 (40 + L) P9, .int .i64 40] W fun e w' => e = .returned (.tuple #[hdV r1 r2 r3 r4, .int .i64 r5]) ∧ Keeps W w' by
            intro W
            have := dgmay_any W 6 40 (40 + L) P9 40 W (Keeps.refl _)
            rw [hr] at this
            exact this)
          have HR := Lib.hid (show peek (ls s) = (⟨r1, r2, r3, r4⟩, r5) by rw [HM.out, HD.out, hr])
          clear hr
          obtain ⟨b, hb⟩ : ∃ b, w.heap.size = b := ⟨_, rfl⟩
          have hB := Hd4.new w
          have hkA := hk.alloc (.cells #[.int .i64 0, .int .i64 0, .int .i64 0, .int .i64 0] 24)
          have HB0 := Lib.hid (show w0.heap.size ≤ b by rw [← hb]; exact Below.size hk)
          obtain ⟨wA, hwA⟩ : ∃ wA, w.alloc (.cells #[.int .i64 0, .int .i64 0, .int .i64 0, .int .i64 0] 24) = wA := ⟨_, rfl⟩
          rw [hwA] at hB hkA
          rw [hb] at hB
          have HWA := Lib.hid (show Keeps w0 wA ∧ Hd4 b z wA from ⟨hkA, hB⟩)
          rw [hwA, hb]
          clear hwA hB hkA hb hk
          have i9 : (6 : Int) < (s.size : Int) := by omega
          have i4 : (6 : Int) ≤ (s.size : Int) := by omega
          have w2 := wrapI (a := 40 + L) (by omega) (by omega)
          have w3 := wrapI (a := P9) (by omega) (by omega)
          refine wp_draw (by kernel_rfl)
            [.string s, .string (s.extract 4 6), .int .i64 L, .int .i64 (40 + L), .string s, .int .u8 P9, .int .i64 P9, hdV 6 40 (40 + L) P9,
              .tuple #[hdV r1 r2 r3 r4, .int .i64 r5], hdV r1 r2 r3 r4, .int .i64 r5, undef, .int .i64 r5]
            (Once 11 (fun W => Keeps w0 W ∧ Hd4 b z W) (fun W => Keeps w0 W ∧ Hd4 b ⟨r1, r2, r3, r4⟩ W))
            rfl (by kernel_rfl) (fin := ?fin2) ?hfin2 (Once.start ⟨HWA.out.1.eqv (Eqv.drew wA), HWA.out.2.eqv (Eqv.drew wA)⟩) ?each2 ?hend2
          case hfin2 => simp [seqA, dstOf, Act.put]; rfl
          case each2 =>
            refine ⟨?_, ?_, ?_, ?_, ?_, ?_, ?_, ?_, ?_, ?_, ?_, ?_, ?_, trivial⟩
            all_goals intro L5 w5 h0 hd hs hw
            all_goals try simp only [Nat.zero_add, Nat.reduceAdd] at h0
            all_goals unfold Does
            rotate_left 11
            · obtain ⟨hkk, q1, q2, q3, q4, f1, f2, f3, f4⟩ := hw.1 h0
              have hst := (hw.1 h0).2.store r1 r2 r3 r4
              have hks := hkk.store r1 r2 r3 r4 HB0.out
              go_simp
              exact fun L' k => Once.done k ⟨hks, hst⟩
            rotate_left 3
            · go_simp
              refine (HNU.out w5).mono ?_
              rintro e w6 ⟨rfl, he6⟩
              exact ⟨_, rfl, rfl, fun L' k => hw.keep (by decide) k (fun h => ⟨h.1.eqv he6, h.2.eqv he6⟩) (fun h => ⟨h.1.eqv he6, h.2.eqv he6⟩)⟩
            rotate_left 5
            · go_simp
              refine (HMY.out w5).mono ?_
              rintro e w6 ⟨rfl, he6⟩
              exact ⟨_, rfl, rfl, fun L' k => hw.keep (by decide) k (fun h => ⟨h.1.trans he6, h.2.keeps he6⟩) (fun h => ⟨h.1.trans he6, h.2.keeps he6⟩)⟩
            all_goals go_simp
            all_goals exact fun L' k => hw.same (by decide) k
          case hend2 =>
            intro L5 w5 hL5 hw
            obtain ⟨hk5, q1, q2, q3, q4, f1, f2, f3, f4⟩ := hw.2 (hL5 11 (by simp))
            have HK5 := Lib.hid hk5
            clear hL5 w2 w3 i9 hw hk5
            go_wp2
            exact bodyPost_ret (v := .tuple #[hdV r1 r2 r3 r4, .int .i64 r5]) (by simp [results, Try.results10, go_sem, q1, q2, q3, q4]) rfl (PkPost.of HR.out HK5.out)
      · have HM := Lib.hid (peek_kind (l := ls s) (by rw [← HSZ.out]; exact h0) (by rw [HN0.out]; exact h4) (by rw [HN0.out]; exact h6))
        go_enter Try.func10, Try.ntmps10
        go_wp2
        exact bodyPost_ret (v := .tuple #[hdV 0 0 0 0, .int .i64 14]) (by simp [results, Try.results10, go_sem]) rfl (PkPost.of HM.out (hk.alloc _))
end Go.Proofs.Ytggokcakikkdgaa
