/-
  What both Checks answer: for texts of up to a billion bytes. The memory that was there stays.
-/
import Derived.Test.YtggokcakikkdgaaDgC
namespace Go.Proofs.Ytggokcakikkdgaa
open Go.RowKit Gf Dg
set_option maxRecDepth 100000
theorem IsT.oneAt {w : World} {b : Nat} (hb : w.heap.size = b) (s : ByteArray) (t : TypeId) : IsT (w.alloc (.cells #[.string s] t)) (some ⟨b, 0, none⟩) 1 [ls s] := by subst hb; exact IsT.one w s t
theorem IsT.twoAt {w : World} {b : Nat} (hb : w.heap.size = b) (s u : ByteArray) (t : TypeId) : IsT (w.alloc (.cells #[.string s, .string u] t)) (some ⟨b, 0, none⟩) 2 [ls s, ls u] := by subst hb; exact IsT.two w s u t
/-- What Check answers, by what a beginning tells. -/
theorem check_bad {l : List UInt8} {r : Hd} {e : Int} (h : peek l = (r, e)) (he : e ≠ 0) : check l = e := by unfold check; rw [h, if_pos he]
theorem check_short {l : List UInt8} {r : Hd} (h : peek l = (r, 0)) (hl : (l.length : Int) < r.l) : check l = 10 := by unfold check; rw [h, if_neg (by simp), if_pos hl]
theorem check_long {l : List UInt8} {r : Hd} (h : peek l = (r, 0)) (hl : r.l < (l.length : Int)) : check l = 11 := by unfold check; rw [h, if_neg (by simp), if_neg (by show ¬ (l.length : Int) < r.l; omega), if_pos (by show (l.length : Int) > r.l; omega)]
theorem check_eq {l : List UInt8} {r : Hd} (h : peek l = (r, 0)) (hl : (l.length : Int) = r.l) : check l = if r.v = 4 ∧ csum (l.take r.h.toNat) ≠ 0 then 13 else 0 := by
  unfold check; rw [h, if_neg (by simp), if_neg (by show ¬ (l.length : Int) < r.l; omega), if_neg (by show ¬ (l.length : Int) > r.l; omega)]
def ChPost (w0 : World) (l : List UInt8) (e : Ending) (w' : World) : Prop := e = .returned (.int .i64 (check l)) ∧ Keeps w0 w'
set_option maxHeartbeats 1600000 in
theorem dgcheck_any (w0 : World) (s : ByteArray) (w : World) (hs : s.size ≤ 1000000000) (hk : Keeps w0 w) :
    Calls Try.prog 12 #[.string s] w (ChPost w0 (ls s)) := by
  obtain ⟨⟨⟨r1, r2, r3, r4⟩, r5⟩, hr⟩ : ∃ r, peek (ls s) = r := ⟨_, rfl⟩
  have hpk := dgpeek_any w0 s w hs hk
  unfold PkPost HdPost at hpk
  rw [hr] at hpk
  have HPK := Lib.hid hpk
  have hsz := ls_size s
  by_cases h5 : r5 = 0
  · subst h5
    have hok := peek_ok (l := ls s) (by rw [hr])
    rw [hr] at hok
    obtain ⟨o1, o2, o3, o4, o5, o6⟩ := hok
    simp only at o1 o2 o3 o4 o5
    clear hpk
    by_cases hlt : (s.size : Int) < r3
    · have HC := Lib.hid (check_short hr (by rw [← hsz]; exact hlt))
      clear hr hsz
      go_enter Try.func12, Try.ntmps12
      go_wp2_with fail
      refine HPK.out.mono ?_
      rintro e w1 ⟨rfl, hk1⟩
      unfold hdR
      go_wp2
      go_ret
      exact ⟨by rw [HC.out]; rfl, hk1.alloc _⟩
    · by_cases hgt : r3 < (s.size : Int)
      · have HC := Lib.hid (check_long hr (by rw [← hsz]; exact hgt))
        clear hr hsz
        go_enter Try.func12, Try.ntmps12
        go_wp2_with fail
        refine HPK.out.mono ?_
        rintro e w1 ⟨rfl, hk1⟩
        unfold hdR
        go_wp2
        go_ret
        exact ⟨by rw [HC.out]; rfl, hk1.alloc _⟩
      · have he := check_eq hr (by show ((ls s).length : Int) = r3; omega)
        simp only at he
        rcases o5 with o5 | o5
        · subst o5
          obtain ⟨h, rfl⟩ : ∃ h : Nat, r2 = (h : Int) := ⟨r2.toNat, by omega⟩
          have HX := Lib.hid (show ls (s.extract 0 h) = (ls s).take h by rw [ls_part]; simp)
          have HXL := Lib.hid (show (ls (s.extract 0 h)).length ≤ 1000000000 by rw [ls_part, List.length_take]; omega)
          by_cases hz : csum ((ls s).take h) = 0
          · have HC := Lib.hid (show check (ls s) = 0 by rw [he, if_neg (by rw [Int.toNat_natCast]; simp [hz])])
            have HZ := Lib.hid hz
            clear hr hsz he hz
            go_enter Try.func12, Try.ntmps12
            go_wp2_with fail
            refine HPK.out.mono ?_
            rintro e w1 ⟨rfl, hk1⟩
            unfold hdR
            go_wp2_with fail
            with_reducible refine (dgsum_any _ _ _ [ls (s.extract 0 h)] _ (IsT.oneAt (World.size_alloc _ _) (s.extract 0 h) 9) (by simp) (by simpa using HXL.out)).mono ?_
            rintro e w2 ⟨rfl, he2⟩
            rw [show [ls (s.extract 0 h)].flatten = (ls s).take h by rw [← HX.out]; simp, HZ.out]
            go_wp2
            go_ret
            exact ⟨by rw [HC.out]; rfl, ((hk1.alloc _).alloc _).eqv he2⟩
          · have HC := Lib.hid (show check (ls s) = 13 by rw [he, if_pos (by rw [Int.toNat_natCast]; exact ⟨rfl, hz⟩)])
            have HZ := Lib.hid hz
            clear hr hsz he hz
            go_enter Try.func12, Try.ntmps12
            go_wp2_with fail
            refine HPK.out.mono ?_
            rintro e w1 ⟨rfl, hk1⟩
            unfold hdR
            go_wp2_with fail
            with_reducible refine (dgsum_any _ _ _ [ls (s.extract 0 h)] _ (IsT.oneAt (World.size_alloc _ _) (s.extract 0 h) 9) (by simp) (by simpa using HXL.out)).mono ?_
            rintro e w2 ⟨rfl, he2⟩
            rw [show [ls (s.extract 0 h)].flatten = (ls s).take h by rw [← HX.out]; simp]
            have hz2 : (csum ((ls s).take h) != 0) = true := by simpa using HZ.out
            generalize csum ((ls s).take h) = q at *
            go_wp2
            go_ret
            exact ⟨by rw [HC.out]; rfl, ((hk1.alloc _).alloc _).eqv he2⟩
        · subst o5
          have HC := Lib.hid (show check (ls s) = 0 by rw [he, if_neg (by simp)])
          clear hr hsz he
          go_enter Try.func12, Try.ntmps12
          go_wp2_with fail
          refine HPK.out.mono ?_
          rintro e w1 ⟨rfl, hk1⟩
          unfold hdR
          go_wp2
          go_ret
          exact ⟨by rw [HC.out]; rfl, hk1.alloc _⟩
  · have HC := Lib.hid (check_bad hr h5)
    clear hpk hr hsz
    go_enter Try.func12, Try.ntmps12
    go_wp2_with fail
    refine HPK.out.mono ?_
    rintro e w1 ⟨rfl, hk1⟩
    unfold hdR
    go_wp2
    go_ret
    exact ⟨by rw [HC.out]; rfl, hk1.alloc _⟩
set_option maxHeartbeats 1600000 in
theorem dgrcheck_any (w0 : World) (s : ByteArray) (w : World) (hs : s.size ≤ 1000000000) (hk : Keeps w0 w) :
    Calls Try.prog 13 #[.string s] w (ChPost w0 (ls s)) := by
  obtain ⟨⟨⟨r1, r2, r3, r4⟩, r5⟩, hr⟩ : ∃ r, peek (ls s) = r := ⟨_, rfl⟩
  have hpk := dgrpeek_any w0 s w hs hk
  unfold PkPost HdPost at hpk
  rw [hr] at hpk
  have HPK := Lib.hid hpk
  have hsz := ls_size s
  by_cases h5 : r5 = 0
  · subst h5
    have hok := peek_ok (l := ls s) (by rw [hr])
    rw [hr] at hok
    obtain ⟨o1, o2, o3, o4, o5, o6⟩ := hok
    simp only at o1 o2 o3 o4 o5
    clear hpk
    by_cases hlt : (s.size : Int) < r3
    · have HC := Lib.hid (check_short hr (by rw [← hsz]; exact hlt))
      clear hr hsz
      go_enter Try.func13, Try.ntmps13
      go_wp2_with fail
      refine HPK.out.mono ?_
      rintro e w1 ⟨rfl, hk1⟩
      unfold hdR
      go_wp2
      go_ret
      exact ⟨by rw [HC.out]; rfl, hk1.alloc _⟩
    · by_cases hgt : r3 < (s.size : Int)
      · have HC := Lib.hid (check_long hr (by rw [← hsz]; exact hgt))
        clear hr hsz
        go_enter Try.func13, Try.ntmps13
        go_wp2_with fail
        refine HPK.out.mono ?_
        rintro e w1 ⟨rfl, hk1⟩
        unfold hdR
        go_wp2
        go_ret
        exact ⟨by rw [HC.out]; rfl, hk1.alloc _⟩
      · have he := check_eq hr (by show ((ls s).length : Int) = r3; omega)
        simp only at he
        rcases o5 with o5 | o5
        · subst o5
          obtain ⟨h, rfl⟩ : ∃ h : Nat, r2 = (h : Int) := ⟨r2.toNat, by omega⟩
          have HX := Lib.hid (show ls (s.extract 0 h) = (ls s).take h by rw [ls_part]; simp)
          have HXL := Lib.hid (show (s.extract 0 h).size ≤ 1000000000 by rw [ls_size, ls_part, List.length_take]; omega)
          by_cases hz : csum ((ls s).take h) = 0
          · have HC := Lib.hid (show check (ls s) = 0 by rw [he, if_neg (by rw [Int.toNat_natCast]; simp [hz])])
            have HZ := Lib.hid hz
            clear hr hsz he hz
            go_enter Try.func13, Try.ntmps13
            go_wp2_with fail
            refine HPK.out.mono ?_
            rintro e w1 ⟨rfl, hk1⟩
            unfold hdR
            go_wp2_with fail
            refine (dgrsum_any (s.extract 0 h) _ HXL.out).mono ?_
            rintro e w2 ⟨rfl, rfl⟩
            rw [HX.out, HZ.out]
            go_wp2
            go_ret
            exact ⟨by rw [HC.out]; rfl, hk1.alloc _⟩
          · have HC := Lib.hid (show check (ls s) = 13 by rw [he, if_pos (by rw [Int.toNat_natCast]; exact ⟨rfl, hz⟩)])
            have HZ := Lib.hid hz
            clear hr hsz he hz
            go_enter Try.func13, Try.ntmps13
            go_wp2_with fail
            refine HPK.out.mono ?_
            rintro e w1 ⟨rfl, hk1⟩
            unfold hdR
            go_wp2_with fail
            refine (dgrsum_any (s.extract 0 h) _ HXL.out).mono ?_
            rintro e w2 ⟨rfl, rfl⟩
            rw [HX.out]
            have hz2 : (csum ((ls s).take h) != 0) = true := by simpa using HZ.out
            generalize csum ((ls s).take h) = q at *
            go_wp2
            go_ret
            exact ⟨by rw [HC.out]; rfl, hk1.alloc _⟩
        · subst o5
          have HC := Lib.hid (show check (ls s) = 0 by rw [he, if_neg (by simp)])
          clear hr hsz he
          go_enter Try.func13, Try.ntmps13
          go_wp2_with fail
          refine HPK.out.mono ?_
          rintro e w1 ⟨rfl, hk1⟩
          unfold hdR
          go_wp2
          go_ret
          exact ⟨by rw [HC.out]; rfl, hk1.alloc _⟩
  · have HC := Lib.hid (check_bad hr h5)
    clear hpk hr hsz
    go_enter Try.func13, Try.ntmps13
    go_wp2_with fail
    refine HPK.out.mono ?_
    rintro e w1 ⟨rfl, hk1⟩
    unfold hdR
    go_wp2
    go_ret
    exact ⟨by rw [HC.out]; rfl, hk1.alloc _⟩
end Go.Proofs.Ytggokcakikkdgaa
