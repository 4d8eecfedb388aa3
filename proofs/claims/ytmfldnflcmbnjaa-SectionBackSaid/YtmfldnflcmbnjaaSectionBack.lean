/-
  For any section, any string and any two numbers SectionBack returns true: Decode of Encode is the section, Join of Split is the text, and nothing of which one byte is turned is a section; nothing that was there is changed. No condition.
-/
import Derived.Test.YtmfldnflcmbnjaaRows
import Derived.Test.YtmfldnflcmbnjaaScArgs
import Derived.Test.YtmfldnflcmbnjaaScG
import Derived.Test.YtmfldnflcmbnjaaScJ
import Derived.StillTailTactics
namespace Go.Proofs.Ytmfldnflcmbnjaa.sectionBack
open Go.ChangeShapes Go.WideShapes Go.ChangeAt Go.RowKit Gf Sct
set_option maxRecDepth 100000
open Go.ChangeMaps (open_string shut_string)
set_option linter.unusedVariables false
/-- The world in which the arguments lie in boxes. -/
structure Boxed (w wX : World) (b b2 : Nat) (s : Sec) (p q : Int) : Prop where
  s : SecAt b s wX
  p : wX.cell? ⟨b2, 0, none⟩ = some (.int .i64 p)
  q : wX.cell? ⟨b2, 1, none⟩ = some (.int .i64 q)
  k : Keeps w wX
theorem Boxed.keeps {w wX W : World} {b b2 : Nat} {s : Sec} {p q : Int} (h : Boxed w wX b b2 s p q) (k : Keeps wX W) : Boxed w W b b2 s p q := by
  have hb : b2 < wX.heap.size := by obtain ⟨o, ho, _⟩ := cells_of_cell h.p; exact (Array.getElem?_eq_some_iff.1 ho).1
  exact ⟨h.s.keeps k, (Below.cell k (p := ⟨b2, 0, none⟩) hb).trans h.p, (Below.cell k (p := ⟨b2, 1, none⟩) hb).trans h.q, h.k.trans k⟩
theorem boxed (w : World) (s : Sec) (p q : Int) : Boxed w ((w.alloc (.cells #[.int .i64 s.tb, .bool s.pv, .int .i64 s.ex, .int .i64 s.ver, .bool s.nw, .int .i64 s.num, .int .i64 s.la, .string s.body] 23)).alloc (.cells #[.int .i64 p, .int .i64 q] 52)) w.heap.size (w.heap.size + 1) s p q := by
  have h1 := SecAt.made w s 23
  refine ⟨h1.keeps ((Keeps.refl _).alloc _), ?_, ?_, ((Keeps.refl w).alloc _).alloc _⟩
  · have := World.cell?_alloc_new (w.alloc (.cells #[.int .i64 s.tb, .bool s.pv, .int .i64 s.ex, .int .i64 s.ver, .bool s.nw, .int .i64 s.num, .int .i64 s.la, .string s.body] 23)) #[.int .i64 p, .int .i64 q] 52 0
    rw [World.size_alloc] at this
    exact this
  · have := World.cell?_alloc_new (w.alloc (.cells #[.int .i64 s.tb, .bool s.pv, .int .i64 s.ex, .int .i64 s.ver, .bool s.nw, .int .i64 s.num, .int .i64 s.la, .string s.body] 23)) #[.int .i64 p, .int .i64 q] 52 1
    rw [World.size_alloc] at this
    exact this
theorem chk9 {l : List UInt8} (h : l.length ≤ 9000) : chk (base 9 8 7 l) = 0 := by
  have hl : lastN l ≤ 2 := by unfold lastN; omega
  exact chk_ok ⟨by show (0 : Int) ≤ 9; decide, by show (9 : Int) ≤ 255; decide, by show (0 : Int) ≤ 8; decide, by show (8 : Int) ≤ 65535; decide, by show (0 : Int) ≤ 7; decide, by show (7 : Int) ≤ 31; decide, by show (0 : Int) ≤ (lastN l : Int); omega, by show (lastN l : Int) ≤ 255; omega, by show (0 : Int) ≤ 0; decide, by show (0 : Int) ≤ (lastN l : Int); omega⟩ (by show ¬ 4084 < (⟨#[]⟩ : ByteArray).size; decide)
set_option maxHeartbeats 3200000 in
theorem off (s : Sec) (t : ByteArray) (p q : Int) (w : World) (h : fewB s.body = false ∨ (fewB s.body = true ∧ ¬ t.size ≤ 9000)) :
    Calls Try.prog 6 #[secV s, .string t, .agg #[.int .i64 p, .int .i64 q]] w fun e w' => e = .returned (.bool true) ∧ Below w.heap.size w w' := by
  have HBX := Lib.hid (boxed w s p q)
  obtain ⟨wX, hX⟩ : ∃ wX, (w.alloc (.cells #[.int .i64 s.tb, .bool s.pv, .int .i64 s.ex, .int .i64 s.ver, .bool s.nw, .int .i64 s.num, .int .i64 s.la, .string s.body] 23)).alloc (.cells #[.int .i64 p, .int .i64 q] 52) = wX := ⟨_, rfl⟩
  rw [hX] at HBX
  have HFW := Lib.hid (fun W => scfew_any s.body W)
  have q7 := HBX.out.s.c7
  rcases h with h | ⟨h, h9⟩
  all_goals
    rw [h] at HFW
    clear h
    obtain ⟨tb, pv, ex, ver, nw, num, la, body⟩ := s
    simp only at hX q7
    go_enter Try.func6, Try.ntmps6
    go_wp2_with (first | (go_at_call 9; refine (HFW.out _).mono ?_; rintro _ _ ⟨rfl, rfl⟩) | (go_at_call 10; refine (awake8_any w _ HBX.out.k).mono ?_; rintro _ w5 ⟨rfl, k5⟩))
    go_ret
    exact ⟨rfl, k5⟩
set_option maxHeartbeats 12800000 in
theorem core (s : Sec) (t : ByteArray) (p q : Int) (w : World) (hf : fewB s.body = true) (ht : t.size ≤ 9000) :
    Calls Try.prog 6 #[secV s, .string t, .agg #[.int .i64 p, .int .i64 q]] w fun e w' => e = .returned (.bool true) ∧ Below w.heap.size w w' := by
  have HBX := Lib.hid (boxed w s p q)
  obtain ⟨wX, hX⟩ : ∃ wX, (w.alloc (.cells #[.int .i64 s.tb, .bool s.pv, .int .i64 s.ex, .int .i64 s.ver, .bool s.nw, .int .i64 s.num, .int .i64 s.la, .string s.body] 23)).alloc (.cells #[.int .i64 p, .int .i64 q] 52) = wX := ⟨_, rfl⟩
  rw [hX] at HBX
  have HFW := Lib.hid (fun W => scfew_any s.body W)
  have q7 := HBX.out.s.c7
  rw [hf] at HFW
  have hc9 := chk9 (l := ls t) (by rw [← ls_size]; exact ht)
  have hl2 : ¬ 255 < lastN (ls t) := by unfold lastN; rw [← ls_size]; omega
  have HSP := Lib.hid (fun W => scsplit_any W 9 8 7 t W (by omega) (Keeps.refl W))
  unfold SplPost at HSP
  simp only [spl_ok hl2 hc9] at HSP
  have HJN := Lib.hid (jn_secs (l := ls t) hc9)
  obtain ⟨N, hN⟩ : ∃ N, (secs 9 8 7 (ls t)).length = N := ⟨_, rfl⟩
  have hN2 : N = (t.size - 1) / 4084 + 1 := by rw [← hN, secs_length]; unfold lastN; rw [← ls_size]
  have hmx : max 1 (((t.size : Int) + 4083) / 4084) = (N : Int) := by omega
  have HNS := Lib.hid hN
  have hNb : N ≤ 3 := by omega
  obtain ⟨SL, hSL⟩ : ∃ SL, secs 9 8 7 (ls t) = SL := ⟨_, rfl⟩
  simp only [hSL] at HSP
  rw [hSL] at HJN HNS
  have HPL := Lib.hid (fun W => scplain_any W s W (Keeps.refl W))
  unfold SecPost at HPL
  have HCK := Lib.hid (fun W => scrcheck_any W s W (Keeps.refl W))
  unfold ChkPost at HCK
  clear hf hc9 hl2 hN hN2 hSL
  have HJO := Lib.hid (fun a cap W (hI : IsE secT W a N SL) => scjoin_any W a N cap SL W hI (by omega) (Keeps.refl W))
  unfold JnPost at HJO
  simp only [HJN.out, st_ls] at HJO
  by_cases hc : chk s = 0
  · obtain ⟨T, hT⟩ : ∃ T, st (Sct.bytes s) = T := ⟨_, rfl⟩
    have hTl : ls T = Sct.bytes s := by rw [← hT, ls_st]
    obtain ⟨M, hM⟩ : ∃ M, T.size = M := ⟨_, rfl⟩
    have hM2 : M = s.body.size + 12 := by rw [← hM, ls_size, hTl, bytes_length]
    have hz := (chk_fit hc).2
    have hBM : (s.body.size : Int) + 12 = (M : Int) := by omega
    have HEN := Lib.hid (fun W => scenc_any W s W (Keeps.refl W))
    unfold EncPost at HEN
    simp only [ecd_ok hc, hT] at HEN
    have HD := Lib.hid (fun W => scdec_any W T W (by omega) (Keeps.refl W))
    unfold RdPost at HD
    simp only [hTl, dec_bytes hc] at HD
    have HND := Lib.hid (fun W => scneed_any W T W (by omega) (Keeps.refl W))
    unfold NeedPost at HND
    simp only [hTl, need_bytes hc, ← hM2] at HND
    simp only [hc] at HCK
    have HC := Lib.hid hc
    have HTL := Lib.hid hTl
    have hNE : ∀ W, (binOp .neq 23 (secV s) (secV s)).run Try.prog W = .ok (.bool false) W := fun W => by rw [neS, sameB_iff.2 rfl]; rfl
    have hgd := egS
    have hMb : M ≤ 4096 := by omega
    have HM2 := Lib.hid hM2
    clear hc hT hTl hM2 hz
    obtain ⟨qm, hqm⟩ : ∃ qm, q.tmod 256 = qm := ⟨_, rfl⟩
    by_cases hp0 : p < 0
    · clear hqm
      obtain ⟨tb, pv, ex, ver, nw, num, la, body⟩ := s
      simp only at hX q7 hBM
      go_enter Try.func6, Try.ntmps6
      go_wp2_with (first | (go_at_call 9; refine (HFW.out _).mono ?_; rintro _ _ ⟨rfl, rfl⟩) | (go_at_call 20; refine (HSP.out _).mono ?_; rintro _ w2 ⟨v2, rfl, own2, k2⟩; obtain ⟨a2, c2, rfl, is2, _⟩ := own2.is; rw [HNS.out] at is2 ⊢; have HIS := Lib.hid is2; have HK := Lib.hid k2; clear own2 is2 k2) | (go_at_call 22; refine (HJO.out a2 c2 _ HIS.out).mono ?_; rintro _ w3 ⟨rfl, k3⟩; replace HK := Lib.hid (Keeps.trans HK.out k3); clear k3) | (refine wp_ldS (HBX.out.keeps HK.out).s.range rfl _ rfl rfl ?_) | (go_at_call 12; refine (HPL.out _).mono ?_; rintro _ w4 ⟨rfl, k4⟩; replace HK := Lib.hid (HK.out.trans k4); clear k4) | (go_at_call 11; refine (HCK.out _).mono ?_; rintro _ w6 ⟨rfl, k6⟩; replace HK := Lib.hid (HK.out.trans k6); clear k6) | (go_at_call 13; refine (HEN.out _).mono ?_; rintro _ w7 ⟨rfl, k7⟩; replace HK := Lib.hid (HK.out.trans k7); clear k7) | (go_at_call 18; refine (HD.out _).mono ?_; rintro _ w8 ⟨rfl, k8⟩; have HS8 := Lib.hid (SecAt.made w8 ⟨tb, pv, ex, ver, nw, num, la, body⟩ 23); replace HK := Lib.hid ((HK.out.trans k8).alloc (.cells (secC ⟨tb, pv, ex, ver, nw, num, la, body⟩).toArray 23)); clear k8) | (go_at_call 16; refine (HND.out _).mono ?_; rintro _ w9 ⟨rfl, k9⟩; replace HK := Lib.hid (HK.out.trans k9); obtain ⟨e0, e1, e2, e3, e4, e5, e6, e7, _⟩ := HS8.out.keeps k9; obtain ⟨⟨d0, d1, d2, d3, d4, d5, d6, d7, _⟩, dp, dq, _⟩ := HBX.out.keeps HK.out; clear k9) | (go_at_call 10; refine (awake8_any w _ (HBX.out.keeps HK.out).k).mono ?_; rintro _ w5 ⟨rfl, k5⟩))
      go_ret
      exact ⟨rfl, k5⟩
    by_cases hp1 : (M : Int) ≤ p
    · clear hqm
      obtain ⟨tb, pv, ex, ver, nw, num, la, body⟩ := s
      simp only at hX q7 hBM
      go_enter Try.func6, Try.ntmps6
      go_wp2_with (first | (go_at_call 9; refine (HFW.out _).mono ?_; rintro _ _ ⟨rfl, rfl⟩) | (go_at_call 20; refine (HSP.out _).mono ?_; rintro _ w2 ⟨v2, rfl, own2, k2⟩; obtain ⟨a2, c2, rfl, is2, _⟩ := own2.is; rw [HNS.out] at is2 ⊢; have HIS := Lib.hid is2; have HK := Lib.hid k2; clear own2 is2 k2) | (go_at_call 22; refine (HJO.out a2 c2 _ HIS.out).mono ?_; rintro _ w3 ⟨rfl, k3⟩; replace HK := Lib.hid (Keeps.trans HK.out k3); clear k3) | (refine wp_ldS (HBX.out.keeps HK.out).s.range rfl _ rfl rfl ?_) | (go_at_call 12; refine (HPL.out _).mono ?_; rintro _ w4 ⟨rfl, k4⟩; replace HK := Lib.hid (HK.out.trans k4); clear k4) | (go_at_call 11; refine (HCK.out _).mono ?_; rintro _ w6 ⟨rfl, k6⟩; replace HK := Lib.hid (HK.out.trans k6); clear k6) | (go_at_call 13; refine (HEN.out _).mono ?_; rintro _ w7 ⟨rfl, k7⟩; replace HK := Lib.hid (HK.out.trans k7); clear k7) | (go_at_call 18; refine (HD.out _).mono ?_; rintro _ w8 ⟨rfl, k8⟩; have HS8 := Lib.hid (SecAt.made w8 ⟨tb, pv, ex, ver, nw, num, la, body⟩ 23); replace HK := Lib.hid ((HK.out.trans k8).alloc (.cells (secC ⟨tb, pv, ex, ver, nw, num, la, body⟩).toArray 23)); clear k8) | (go_at_call 16; refine (HND.out _).mono ?_; rintro _ w9 ⟨rfl, k9⟩; replace HK := Lib.hid (HK.out.trans k9); obtain ⟨e0, e1, e2, e3, e4, e5, e6, e7, _⟩ := HS8.out.keeps k9; obtain ⟨⟨d0, d1, d2, d3, d4, d5, d6, d7, _⟩, dp, dq, _⟩ := HBX.out.keeps HK.out; clear k9) | (go_at_call 10; refine (awake8_any w _ (HBX.out.keeps HK.out).k).mono ?_; rintro _ w5 ⟨rfl, k5⟩))
      go_ret
      exact ⟨rfl, k5⟩
    by_cases hq0 : qm = 0
    · subst hq0
      obtain ⟨tb, pv, ex, ver, nw, num, la, body⟩ := s
      simp only at hX q7 hBM
      go_enter Try.func6, Try.ntmps6
      go_wp2_with (first | (go_at_call 9; refine (HFW.out _).mono ?_; rintro _ _ ⟨rfl, rfl⟩) | (go_at_call 20; refine (HSP.out _).mono ?_; rintro _ w2 ⟨v2, rfl, own2, k2⟩; obtain ⟨a2, c2, rfl, is2, _⟩ := own2.is; rw [HNS.out] at is2 ⊢; have HIS := Lib.hid is2; have HK := Lib.hid k2; clear own2 is2 k2) | (go_at_call 22; refine (HJO.out a2 c2 _ HIS.out).mono ?_; rintro _ w3 ⟨rfl, k3⟩; replace HK := Lib.hid (Keeps.trans HK.out k3); clear k3) | (refine wp_ldS (HBX.out.keeps HK.out).s.range rfl _ rfl rfl ?_) | (go_at_call 12; refine (HPL.out _).mono ?_; rintro _ w4 ⟨rfl, k4⟩; replace HK := Lib.hid (HK.out.trans k4); clear k4) | (go_at_call 11; refine (HCK.out _).mono ?_; rintro _ w6 ⟨rfl, k6⟩; replace HK := Lib.hid (HK.out.trans k6); clear k6) | (go_at_call 13; refine (HEN.out _).mono ?_; rintro _ w7 ⟨rfl, k7⟩; replace HK := Lib.hid (HK.out.trans k7); clear k7) | (go_at_call 18; refine (HD.out _).mono ?_; rintro _ w8 ⟨rfl, k8⟩; have HS8 := Lib.hid (SecAt.made w8 ⟨tb, pv, ex, ver, nw, num, la, body⟩ 23); replace HK := Lib.hid ((HK.out.trans k8).alloc (.cells (secC ⟨tb, pv, ex, ver, nw, num, la, body⟩).toArray 23)); clear k8) | (go_at_call 16; refine (HND.out _).mono ?_; rintro _ w9 ⟨rfl, k9⟩; replace HK := Lib.hid (HK.out.trans k9); obtain ⟨e0, e1, e2, e3, e4, e5, e6, e7, _⟩ := HS8.out.keeps k9; obtain ⟨⟨d0, d1, d2, d3, d4, d5, d6, d7, _⟩, dp, dq, _⟩ := HBX.out.keeps HK.out; clear k9) | (go_at_call 10; refine (awake8_any w _ (HBX.out.keeps HK.out).k).mono ?_; rintro _ w5 ⟨rfl, k5⟩))
      go_ret
      exact ⟨rfl, k5⟩
    · obtain ⟨a, rfl⟩ : ∃ a : Nat, p = (a : Int) := ⟨p.toNat, by omega⟩
      have haM : a < M := by omega
      have haI : (a : Int) < (M : Int) := by omega
      obtain ⟨z, hz⟩ : ∃ z : UInt8, q % 256 = (z.toNat : Int) := u8_of (by omega)
      have hz0 : z ≠ 0 := by
        intro e
        subst e
        have h1 : q % 256 = 0 := by rw [hz]; rfl
        have h2 : q.tmod 256 = 0 := Int.tmod_eq_zero_of_dvd (Int.dvd_of_emod_eq_zero h1)
        exact hq0 (by rw [← hqm, h2])
      have hwz : IntKind.u8.wrap q = (z.toNat : Int) := by rw [← hz]; simp [IntKind.wrap, IntKind.bits, IntKind.signed]
      obtain ⟨x, hx⟩ : ∃ x, cf (ls T) a = x := ⟨_, rfl⟩
      have HZ0 := Lib.hid hz0
      have HX := Lib.hid hx
      have hcb := fun W => Lib.run_convert_string_bytes (P := Try.prog) W 9 53 5 T Try.underlying9 Try.underlying53 Try.underlying5
      rw [hM] at hcb
      have hqb : (qm == 0) = false := by simpa using hq0
      clear hz hz0 hx
      obtain ⟨tb, pv, ex, ver, nw, num, la, body⟩ := s
      simp only at hX q7 hBM
      go_enter Try.func6, Try.ntmps6
      go_wp2_with (first | (go_at_call 9; refine (HFW.out _).mono ?_; rintro _ _ ⟨rfl, rfl⟩) | (go_at_call 20; refine (HSP.out _).mono ?_; rintro _ w2 ⟨v2, rfl, own2, k2⟩; obtain ⟨a2, c2, rfl, is2, _⟩ := own2.is; rw [HNS.out] at is2 ⊢; have HIS := Lib.hid is2; have HK := Lib.hid k2; clear own2 is2 k2) | (go_at_call 22; refine (HJO.out a2 c2 _ HIS.out).mono ?_; rintro _ w3 ⟨rfl, k3⟩; replace HK := Lib.hid (Keeps.trans HK.out k3); clear k3) | (refine wp_ldS (HBX.out.keeps HK.out).s.range rfl _ rfl rfl ?_) | (go_at_call 12; refine (HPL.out _).mono ?_; rintro _ w4 ⟨rfl, k4⟩; replace HK := Lib.hid (HK.out.trans k4); clear k4) | (go_at_call 11; refine (HCK.out _).mono ?_; rintro _ w6 ⟨rfl, k6⟩; replace HK := Lib.hid (HK.out.trans k6); clear k6) | (go_at_call 13; refine (HEN.out _).mono ?_; rintro _ w7 ⟨rfl, k7⟩; replace HK := Lib.hid (HK.out.trans k7); clear k7) | (go_at_call 18; refine (HD.out _).mono ?_; rintro _ w8 ⟨rfl, k8⟩; have HS8 := Lib.hid (SecAt.made w8 ⟨tb, pv, ex, ver, nw, num, la, body⟩ 23); replace HK := Lib.hid ((HK.out.trans k8).alloc (.cells (secC ⟨tb, pv, ex, ver, nw, num, la, body⟩).toArray 23)); clear k8) | (go_at_call 16; refine (HND.out _).mono ?_; rintro _ w9 ⟨rfl, k9⟩; replace HK := Lib.hid (HK.out.trans k9); obtain ⟨e0, e1, e2, e3, e4, e5, e6, e7, _⟩ := HS8.out.keeps k9; obtain ⟨⟨d0, d1, d2, d3, d4, d5, d6, d7, _⟩, dp, dq, _⟩ := HBX.out.keeps HK.out; clear k9))
      have hcbn := grownCap_ge w9 M 0 5
      obtain ⟨cb, hcbE⟩ : ∃ cb, grownCap w9 M 0 5 = cb := ⟨_, rfl⟩
      rw [hcbE] at hcbn
      have hBK := Blk.bytes w9 T
      have kB := Lib.bytesWorld_below w9 5 T
      obtain ⟨wB, hwB⟩ : ∃ wB, Lib.bytesWorld w9 5 T = wB := ⟨_, rfl⟩
      rw [hwB] at hBK kB
      have hbX := HBX.out.keeps (HK.out.trans kB)
      have HBB := Lib.hid (show w.heap.size ≤ w9.heap.size from Below.size (HBX.out.keeps HK.out).k)
      obtain ⟨bb, hbb⟩ : ∃ bb, w9.heap.size = bb := ⟨_, rfl⟩
      obtain ⟨b2, hb2⟩ : ∃ b2, w.heap.size + 1 = b2 := ⟨_, rfl⟩
      rw [hbb] at hBK
      rw [hb2] at hbX
      rw [hcbE, hwB, hbb, hb2]
      have HBK := Lib.hid hBK
      have HKB := Lib.hid hbX.k
      have HB9 := Lib.hid (show w.heap.size ≤ bb by rw [← hbb]; exact HBB.out)
      have hLT : (ls T).length = M := by rw [← ls_size, hM]
      have cx := hBK.cell a (by rw [hLT]; exact haM)
      have fx := hBK.free a (by rw [hLT]; exact haM)
      rw [HX.out] at cx
      have cp := hbX.p
      have cq := hbX.q
      have hxor := u8_xor8 x z
      obtain ⟨y, hy⟩ : ∃ y, x ^^^ z = y := ⟨_, rfl⟩
      rw [hy] at hxor
      have HY := Lib.hid hy
      clear hy
      have HLT := Lib.hid hLT
      clear hcb hcbE hBK kB hwB hbX hbb hb2 hLT HBB
      go_still_tail 13, (by kernel_rfl)
      change wpList _ _ _ _ _ wB.drew
      have HBK2 := Lib.hid (HBK.out.eqv (Eqv.drew wB))
      have HKB2 := Lib.hid (HKB.out.eqv (Eqv.drew wB))
      have fx2 := (Eqv.drew wB).frozen ⟨bb, a, none⟩ |>.trans fx
      have cx2 := (Eqv.drew wB).cell ⟨bb, a, none⟩ |>.trans cx
      generalize wB.drew = wC at *
      clear HBK HKB cx fx cp cq
      obtain ⟨nl, hnl⟩ : ∃ nl, (ls T).set a y = nl := ⟨_, rfl⟩
      have hnll : nl.length = M := by rw [← hnl, List.length_set, HLT.out]
      have hcf : ∀ i, cf nl i = if i = a then y else cf (ls T) i := fun i => by rw [← hnl, cf_set _ _ _ (by rw [HLT.out]; exact haM)]
      have hbl := HBK2.out.set (k := a) (by rw [HLT.out]; exact haM) y
      rw [hnl] at hbl
      have hdn : (dec nl).2 ≠ 0 := by
        refine dec_turn (s := ⟨tb, pv, ex, ver, nw, num, la, body⟩) (by rw [hnll, ← HTL.out, HLT.out]) a (fun i hi hne => ?_) (fun e => ?_)
        · by_cases e : i = a
          · exact e
          · rw [hcf, if_neg e, HTL.out] at hne
            exact absurd rfl hne
        · have h1 := hcf a
          rw [if_pos rfl, e, ← HTL.out, HX.out, ← HY.out] at h1
          have h2 : x ^^^ z = x ^^^ 0 := by rw [← h1, UInt8.xor_zero]
          exact HZ0.out ((UInt8.xor_right_inj x).1 h2)
      have hd1 := dec_err hdn
      obtain ⟨r, hr⟩ : ∃ r, (dec nl).2 = r := ⟨_, rfl⟩
      rw [hr] at hdn
      have hrb : (r != 0) = true := by simpa using hdn
      obtain ⟨X2, hX2⟩ : ∃ X2, st nl = X2 := ⟨_, rfl⟩
      have HDX := Lib.hid (fun W => scdec_any W X2 W (by rw [← hX2, st_size, hnll]; omega) (Keeps.refl W))
      unfold RdPost at HDX
      simp only [show ls X2 = nl by rw [← hX2, ls_st], hd1, hr] at HDX
      have hcv := hbl.whole cb (n := M) hnll.symm
      rw [hX2] at hcv
      have hEQ : ∀ W, (binOp .eql 23 (secV zs) (secV zs)).run Try.prog W = .ok (.bool true) W := fun W => by rw [eqS, sameB_iff.2 rfl]
      unfold zs at HDX hEQ
      have HKS := Lib.hid ((Only.setCell wC ⟨bb, a, none⟩ (.int .u8 (y.toNat : Int))).keeps HKB2.out HB9.out)
      clear hnl hnll hcf hbl hdn hd1 hr hX2
      go_wp2_with (first | (go_at_call 18; refine (HDX.out _).mono ?_; rintro _ w10 ⟨rfl, k10⟩; have HK10 := Lib.hid (HKS.out.trans k10); clear k10) | (go_at_call 10; refine (awake8_any w _ (HK10.out.alloc _)).mono ?_; rintro _ w5 ⟨rfl, k5⟩))
      go_ret
      exact ⟨rfl, k5⟩
  · obtain ⟨c, hcc⟩ : ∃ c, chk s = c := ⟨_, rfl⟩
    simp only [hcc] at HCK
    rw [hcc] at hc
    have hcb : (c != 0) = true := by simpa using hc
    clear hcc hc
    obtain ⟨tb, pv, ex, ver, nw, num, la, body⟩ := s
    simp only at hX q7
    go_enter Try.func6, Try.ntmps6
    go_wp2_with (first | (go_at_call 9; refine (HFW.out _).mono ?_; rintro _ _ ⟨rfl, rfl⟩) | (go_at_call 20; refine (HSP.out _).mono ?_; rintro _ w2 ⟨v2, rfl, own2, k2⟩; obtain ⟨a2, c2, rfl, is2, _⟩ := own2.is; rw [HNS.out] at is2 ⊢; have HIS := Lib.hid is2; have HK := Lib.hid k2; clear own2 is2 k2) | (go_at_call 22; refine (HJO.out a2 c2 _ HIS.out).mono ?_; rintro _ w3 ⟨rfl, k3⟩; replace HK := Lib.hid (Keeps.trans HK.out k3); clear k3) | (refine wp_ldS (HBX.out.keeps HK.out).s.range rfl _ rfl rfl ?_) | (go_at_call 12; refine (HPL.out _).mono ?_; rintro _ w4 ⟨rfl, k4⟩; replace HK := Lib.hid (HK.out.trans k4); clear k4) | (go_at_call 11; refine (HCK.out _).mono ?_; rintro _ w6 ⟨rfl, k6⟩; replace HK := Lib.hid (HK.out.trans k6); clear k6) | (go_at_call 10; refine (awake8_any w _ (HBX.out.keeps HK.out).k).mono ?_; rintro _ w5 ⟨rfl, k5⟩))
    go_ret
    exact ⟨rfl, k5⟩
theorem walk (s : Sec) (t : ByteArray) (ht : t.size ≤ maxLen) (two : List Int) (h2 : two.length = 2) (hw : ∀ x ∈ two, (Lit.int .i64 x).wf = true) (w : World) :
    Calls Try.prog 6 #[secV s, .string t, .agg (two.map (.int .i64)).toArray] w fun e w' => e = .returned (.bool true) ∧ Below w.heap.size w w' := by
  match two, h2 with
  | [p, q], _ =>
    cases hf : fewB s.body
    · exact off s t p q w (.inl hf)
    · by_cases h : t.size ≤ 9000
      · exact core s t p q w hf h
      · exact off s t p q w (.inr ⟨hf, h⟩)


theorem own : ownKnob Try.prog.godebug = none := by kernel_rfl
theorem laidOut : laidOutB Try.prog = true := by kernel_rfl
set_option maxRecDepth 100000 in
theorem lifted (os : Os) (started : os.Started) (H : Type) (enc : TypeId × Value → H) :
    ReturnsInHanded {} Try.checked os 6 .any (Rows.sectionBackSpec.pre6 enc Try.prog Try.f6 Rows.sectionBackRow.domain false) (Rows.sectionBackSpec.post enc Try.prog Try.f6 false true false false) := by
  refine returnsInHanded_of_change (C := Try.checked) own started (by kernel_rfl) Try.func6
    (ChangeSpec.witness6 (enc := enc) (C := Try.checked) false ⟨#[], #[.agg #[.int .i64 0, .bool false, .int .i64 0, .int .i64 0, .bool false, .int .i64 0, .int .i64 0, .string ByteArray.empty], .string ByteArray.empty, .agg #[.int .i64 0, .int .i64 0]], []⟩ 8 (by kernel_rfl) (by kernel_rfl) (by kernel_rfl) (by kernel_rfl)) ?_
  intro W base args ds gs before hval0 hW hcnd _
  have hval : ∀ (j : Nat) t v, Try.f6.params[j]? = some t → args[j]? = some v → Value.okWide Try.prog W .any base t v := hval0
  have hW' := hW
  obtain ⟨p, q, hA0, hV, rfl, hfz, hnd⟩ := hW
  have hA : DataW.TrodAll enc Try.prog W 0 (fun _ => true) true Try.f6.params.toList args.toList ds p := hA0
  rw [Try.params6] at hA hval
  obtain ⟨v0, vs0, d0, ds0, p0, q0, hargs, rfl, rfl, h0, r0⟩ := trodAll_cons hA
  obtain ⟨v1, vs1, d1, ds1, p1, q1, rfl, rfl, rfl, h1, r1⟩ := trodAll_cons r0
  obtain ⟨v2, vs2, d2, ds2, p2, q2, rfl, rfl, rfl, h2, r2⟩ := trodAll_cons r1
  obtain ⟨rfl, rfl, rfl⟩ := trodAll_nil r2
  obtain rfl : args = #[v0, v1, v2] := by cases args; simp_all
  obtain ⟨rfl, rfl⟩ := trodVars_none hV
  have k0 := h0
  have lt0 : ∀ x ∈ p0, x.block < W.heap.size := by obtain ⟨m, hm⟩ := k0; exact DataW.trod_lt m _ _ _ hm
  obtain ⟨s0, rfl⟩ := open_sec (hval 0 23 v0 rfl rfl) h0
  obtain ⟨a1, rfl, rfl, rfl, w1⟩ := open_string Try.underlying9 (hval 1 9 v1 rfl rfl) h1
  have k2 := h2
  have lt2 : ∀ x ∈ p2, x.block < W.heap.size := by obtain ⟨m, hm⟩ := k2; exact DataW.trod_lt m _ _ _ hm
  obtain ⟨x2, n2, rfl, wx2⟩ := open_arr Try.underlying52 Try.underlying3 (by kernel_rfl) (by kernel_rfl) (hval 2 52 v2 rfl rfl) h2
  clear hA0 hval0
  refine (walk s0 a1 w1 x2 n2 wx2 W).mono fun e W' ⟨he, bel⟩ => ?_
  subst he
  exact ⟨_, rfl, _, _, _, [], _, [], hW', trodAll_mk1 (shut_bool Try.underlying4 _), (trodAll_cons_mk (Below.trod laidOut (by kernel_rfl) (of_decide_eq_true (by kernel_rfl)) k0 bel lt0) (trodAll_cons_mk (shut_string Try.underlying9 w1) (trodAll_cons_mk (Below.trod laidOut (by kernel_rfl) (of_decide_eq_true (by kernel_rfl)) k2 bel lt2) trodAll_mk0))), rfl, bel.frame _, fun h => by cases h⟩

theorem over : Rows.sectionBackRow.holds Try.pinned (OpenSpec.ofChange Rows.sectionBackSpec) :=
  OpenClaim.holds_of_wide 6 Try.f6 rfl rfl rfl rfl rfl rfl rfl ⟨rfl, rfl, rfl, rfl, rfl⟩ rfl rfl rfl rfl rfl (by kernel_rfl) Try.func6 (by kernel_rfl)
    (of_decide_eq_true (by kernel_rfl)) (by unfold Func.isWrapper; first | (rw [if_pos (by decide +kernel)]; kernel_rfl) | (rw [if_neg (by decide +kernel)]; exact ⟨rfl, rfl⟩))
    (fun os started H enc _ => lifted os started H enc)

theorem proved : Rows.SectionBackSaid := over
#print axioms proved
end Go.Proofs.Ytmfldnflcmbnjaa.sectionBack
