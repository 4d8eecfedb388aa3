/-
  What Word and Data of package mend answer: for texts of up to a thousand bytes and as many places. The memory that was there stays.
-/
import Derived.Test.YtdlcloenihkkgaaMendImpF
namespace Go.Proofs.Ytdlcloenihkkgaa
open Go.RowKit Go.Shelf Gf
set_option maxRecDepth 100000
def WordPost (w : World) (s : List UInt8) (L : List Int) (e : Ending) (w' : World) : Prop :=
  ∃ (r : List UInt8) (ps : List Int) (er : Int) (a : Option Addr) (n c : Nat), e = .returned (.tuple #[.string (st r), .slice a n c, .int .i64 er]) ∧ MAns s L r ps er ∧ IsI w' a n ps ∧ Keeps w w'
def DataPost (w : World) (s : List UInt8) (L : List Int) (e : Ending) (w' : World) : Prop :=
  ∃ (r : List UInt8) (ps : List Int) (er : Int), e = .returned (.tuple #[.string (st (r.take 191)), .int .i64 er]) ∧ MAns s L r ps er ∧ Keeps w w'
theorem mans_arg {s : List UInt8} {L : List Int} (h : ¬ (s.length = 255 ∧ OkP L L.length)) : MAns s L [] [] 1 := .inr ⟨h, rfl, rfl, rfl⟩
theorem mans_many {s : List UInt8} {L : List Int} (hs : s.length = 255) (hok : OkP L L.length) (h : 64 < L.length) : MAns s L [] [] 19 := .inl ⟨hs, hok, .inr ⟨fun v hv => by
  have := hv.2
  have e : roomZ L.length = -1 := by unfold roomZ; rw [if_pos (.inr (by omega))]
  rw [e] at this
  omega, rfl, rfl, rfl⟩⟩
set_option maxHeartbeats 1600000 in
theorem mword_any (s : ByteArray) (a : Option Addr) (len cap : Nat) (L : List Int) (w : World) (hr : IsI w a len L) (hs : s.size ≤ 1000) (hl : len ≤ 1000) :
    Calls Try.prog 17 #[.string s, .slice a len cap] w (WordPost w (ls s) L) := by
  have hll := hr.1
  have HR := Lib.hid hr
  clear hr
  by_cases h255 : s.size = 255
  · have HS := Lib.hid h255
    have HSL := Lib.hid (show (ls s).length = 255 by rw [← ls_size]; exact h255)
    clear h255
    by_cases hok : OkP L L.length
    · have HOK := Lib.hid hok
      clear hok
      by_cases h64 : 64 < len
      · have HRM := Lib.hid (show roomZ (len : Int) = -1 by unfold roomZ; rw [if_pos (.inr (by omega))])
        have HA := Lib.hid (mans_many (s := ls s) HSL.out HOK.out (by omega))
        go_enter Try.func17, Try.ntmps17
        go_wp2_with fail
        refine (rssynd_any w s w HS.out (Keeps.refl w)).mono ?_
        rintro e w1 ⟨rfl, hk1⟩
        have his1 := HR.out.kept hk1
        go_wp2_with fail
        refine (mloc_any a len cap L w1 his1 hl HOK.out).mono ?_
        rintro e w2 ⟨rfl, hk2⟩
        go_wp2_with fail
        refine (mroom_eq _ w2).mono ?_
        rintro e w3 ⟨rfl, rfl⟩
        rw [HRM.out]
        go_wp2
        go_ret3
        exact ⟨[], [], 19, none, 0, 0, rfl, HA.out, IsI.nil _, hk1.trans hk2⟩
      · have HRM := Lib.hid (show roomZ (len : Int) = (64 - (len : Int)) / 2 by unfold roomZ; rw [if_neg (by omega)])
        have hroom : 0 ≤ (64 - (len : Int)) / 2 := by omega
        go_enter Try.func17, Try.ntmps17
        go_wp2_with fail
        refine (rssynd_any w s w HS.out (Keeps.refl w)).mono ?_
        rintro e w1 ⟨rfl, hk1⟩
        have his1 := HR.out.kept hk1
        go_wp2_with fail
        refine (mloc_any a len cap L w1 his1 hl HOK.out).mono ?_
        rintro e w2 ⟨rfl, hk2⟩
        have hk2' := hk1.trans hk2
        clear his1 hk1 hk2
        go_wp2_with fail
        refine (mroom_eq _ w2).mono ?_
        rintro e w3 ⟨rfl, rfl⟩
        rw [HRM.out]
        go_wp2_with fail
        refine (unk_any w (synd (ls s)) (locs L) len w2 (by rw [synd, row_length]; omega) (by rw [locs_length]; omega) (by rw [locs_trim, locs_length]; omega) (by omega) hk2').mono ?_
        rintro e w3 ⟨hi, lo, bef, now, rfl, heu, hhi, hlo, hk3⟩
        have HU := Lib.hid (Unk.euclid (s := ls s) (L := L) HSL.out (by omega) HOK.out heu (by omega) (by omega))
        clear heu hhi hlo hk2'
        have his3 := HR.out.kept hk3
        go_wp2_with fail
        refine (plc_any a len cap L now w3 his3 hl HU.out.tr HU.out.nn (by have := HU.out.few; omega)).mono ?_
        rintro e w4 ⟨v4, rfl, hown4, hk4⟩
        obtain ⟨a4, c4, rfl, his4⟩ := hown4.isI
        have hk4' := hk3.trans hk4
        have HP64 := Lib.hid (HU.out.plc64 (by omega))
        have HPOK := Lib.hid (plc_ok L now (Nat.le_refl 255))
        have HANS := Lib.hid (HU.out.answer HSL.out (by omega) HOK.out)
        have HNON := Lib.hid (HU.out.none HSL.out (by omega) HOK.out)
        have HIN := Lib.hid (fun x : Int => fun hx : x ∈ plc L now 255 => okp_mem HPOK.out hx)
        obtain ⟨A, hA⟩ : ∃ A, plc L now 255 = A := ⟨_, rfl⟩
        rw [hA] at his4 HP64 HPOK HANS HNON HIN
        rw [hA]
        clear hA hown4 hk3 hk4 his3
        have hA64 := HP64.out
        go_wp2_with fail
        refine (trn_any a4 A.length c4 (synd (ls s)) A w4 his4 (by omega) HPOK.out (by rw [synd, row_length]; omega)).mono ?_
        rintro e w5 ⟨v5, rfl, hown5, hk5⟩
        obtain ⟨a5, c5, rfl, his5⟩ := hown5.isC
        have hk5' := hk4'.trans hk5
        have HT := Lib.hid (trn_length (synd (ls s)) A A)
        have HTB := Lib.hid (fun (q : UInt8 × Int) (hq : q ∈ trn (synd (ls s)) A A) => HIN.out q.2 (trn_mem.1 hq).1)
        obtain ⟨T, hT⟩ : ∃ T, trn (synd (ls s)) A A = T := ⟨_, rfl⟩
        rw [hT] at his5 HT HTB HANS HNON
        rw [hT]
        clear hT hown5 his4 hk4' hk5
        go_wp2_with fail
        refine (put_any s a5 T.length c5 T w5 his5 (by have := HT.out; omega) HS.out HTB.out).mono ?_
        rintro e w6 ⟨v6, rfl, hown6, hk6⟩
        have hk6' := hk5'.trans hk6
        have HWL := Lib.hid (show (st (put (ls s) T)).size ≤ 100000 by rw [st_size, put_length, HSL.out]; omega)
        obtain ⟨V, hV⟩ : ∃ V, put (ls s) T = V := ⟨_, rfl⟩
        rw [hV] at HANS HNON HWL
        rw [hV]
        clear hV his5 hk5' hk6
        obtain ⟨a6, c6, rfl, his6⟩ := hown6.isI
        go_wp2_with fail
        refine (rsis_any w6 _ w6 HWL.out (Keeps.refl _)).mono ?_
        rintro e w7 ⟨rfl, hk67⟩
        have hk7 := hk6'.trans hk67
        rw [ls_st]
        by_cases hw : IsWord V
        · have HB := Lib.hid ((isB_iff V).2 hw)
          have HA := Lib.hid (HANS.out hw)
          rw [HB.out]
          clear hw
          go_wp2
          go_ret3
          exact ⟨V, _, 0, a6, _, c6, rfl, HA.out, by have h := his6.kept hk67; rwa [List.length_map] at h, hk7⟩
        · have HB := Lib.hid (show isB V = false by
            cases h : isB V
            · rfl
            · exact absurd ((isB_iff V).1 h) hw)
          have HA := Lib.hid (HNON.out hw)
          rw [HB.out]
          clear hw
          go_wp2
          go_ret3
          exact ⟨[], [], 19, none, 0, 0, rfl, HA.out, IsI.nil _, hk7⟩
    · have HA := Lib.hid (mans_arg (s := ls s) (L := L) (fun h => hok h.2))
      have HOK := Lib.hid hok
      clear hok
      go_enter Try.func17, Try.ntmps17
      go_wp2_with fail
      refine (rssynd_any w s w HS.out (Keeps.refl w)).mono ?_
      rintro e w1 ⟨rfl, hk1⟩
      have his1 := HR.out.kept hk1
      go_wp2_with fail
      refine (mloc_arg a len cap L w1 his1 hl HOK.out).mono ?_
      rintro e w2 ⟨rfl, hk2⟩
      go_wp2
      go_ret3
      exact ⟨[], [], 1, none, 0, 0, rfl, HA.out, IsI.nil _, hk1.trans hk2⟩
  · have HA := Lib.hid (mans_arg (s := ls s) (L := L) (fun h => h255 (by rw [ls_size]; exact h.1)))
    have HS := Lib.hid h255
    clear h255
    go_enter Try.func17, Try.ntmps17
    go_wp2_with fail
    refine (rssynd_arg w s w HS.out (by omega) (Keeps.refl w)).mono ?_
    rintro e w1 ⟨rfl, hk1⟩
    go_wp2
    go_ret3
    exact ⟨[], [], 1, none, 0, 0, rfl, HA.out, IsI.nil _, hk1⟩
set_option maxHeartbeats 1600000 in
theorem mdata_any (s : ByteArray) (a : Option Addr) (len cap : Nat) (L : List Int) (w : World) (hr : IsI w a len L) (hs : s.size ≤ 1000) (hl : len ≤ 1000) :
    Calls Try.prog 18 #[.string s, .slice a len cap] w (DataPost w (ls s) L) := by
  go_enter Try.func18, Try.ntmps18
  go_wp2_with fail
  refine (mword_any s a len cap L w hr hs hl).mono ?_
  rintro e w1 ⟨r, ps, er, b, n, c, rfl, hans, hisi, hk1⟩
  have HA := Lib.hid hans
  have hcase : (er = 0 ∧ r.length = 255) ∨ (er = 1 ∧ r = []) ∨ (er = 19 ∧ r = []) := by
    rcases hans with ⟨_, _, ⟨v, hv, rfl, _, rfl⟩ | ⟨_, rfl, _, rfl⟩⟩ | ⟨_, rfl, _, rfl⟩
    · exact .inl ⟨rfl, hv.1.1⟩
    · exact .inr (.inr ⟨rfl, rfl⟩)
    · exact .inr (.inl ⟨rfl, rfl⟩)
  clear hans hisi
  rcases hcase with ⟨rfl, h255⟩ | ⟨rfl, rfl⟩ | ⟨rfl, rfl⟩
  · have hsz : (st r).size = 255 := by rw [st_size]; exact h255
    have HX := Lib.hid (show (st r).extract 0 191 = st (r.take 191) by rw [ext_st, ls_st])
    go_wp2
    go_ret2
    rw [HX.out]
    exact ⟨r, ps, 0, rfl, HA.out, hk1⟩
  · go_wp2
    go_ret2
    exact ⟨[], ps, 1, rfl, HA.out, hk1⟩
  · go_wp2
    go_ret2
    exact ⟨[], ps, 19, rfl, HA.out, hk1⟩
end Go.Proofs.Ytdlcloenihkkgaa
