/-
  What the document's Bytes answers: for sections that may be. The memory that was there stays.
-/
import Derived.Test.YtmfldnflcmbnjaaScE
namespace Go.Proofs.Ytmfldnflcmbnjaa
open Go.RowKit Gf Sct Bit
set_option maxRecDepth 100000
theorem B_u8 {n : Nat} {x : Int} (h : n < 256) (e : (n : Int) = x) : B (u8 n) = .int .u8 x := by
  unfold B; rw [u8_nat h, e]
theorem hd8_conv {s : Sec} (h : chk s = 0) {F V : Int} (hF : (flg s : Int) = F) (hV : (vby s : Int) = V) (w : World) (C : Array Value)
    (hC : C = #[.int .u8 s.tb, .int .u8 F, .int .u8 (((s.body.size : Int) + 9) % 256), .int .u8 (s.ex / 256), .int .u8 (s.ex % 256), .int .u8 V, .int .u8 s.num, .int .u8 s.la]) :
    (convert 53 9 (.slice (some ⟨w.heap.size, 0, none⟩) 8 8)).run Try.prog (w.alloc (.cells C 5)) = .ok (.string (st (hd8 s))) (w.alloc (.cells C 5)) := by
  have hc := (Blk.lit w (hd8 s) 5).whole 8 (hd8_length s).symm
  obtain ⟨⟨h1, h2, h3, h4, h5, h6, h7, h8, h9, h10⟩, h11⟩ := chk_fit h
  have b1 := bn_le s.pv
  have b2 := bn_le s.nw
  have e : ((hd8 s).map B).toArray = C := by
    rw [hC]
    unfold hd8
    simp only [List.map_cons, List.map_nil]
    rw [B_u8 (x := s.tb) (by omega) (by omega), B_u8 (n := flg s) (by unfold flg; omega) hF, B_u8 (x := ((s.body.size : Int) + 9) % 256) (by omega) (by omega), B_u8 (n := s.ex.toNat / 256) (x := s.ex / 256) (by omega) (by omega), B_u8 (n := s.ex.toNat % 256) (x := s.ex % 256) (by omega) (by omega), B_u8 (n := vby s) (by unfold vby; omega) hV, B_u8 (x := s.num) (by omega) (by omega), B_u8 (x := s.la) (by omega) (by omega)]
  rwa [e] at hc
set_option maxHeartbeats 3200000 in
theorem scrbytes_any (w0 : World) (s : Sec) (w : World) (hc : chk s = 0) (hk : Keeps w0 w) :
    Calls Try.prog 15 #[secV s] w fun e w' => e = .returned (.string (st (Sct.bytes s))) ∧ Keeps w0 w' := by
  obtain ⟨hfit, h11⟩ := chk_fit hc
  obtain ⟨h1, h2, h3, h4, h5, h6, h7, h8, h9, h10⟩ := hfit
  obtain ⟨U, hU⟩ : ∃ U, st (open8 s) = U := ⟨_, rfl⟩
  have hUl : ls U = open8 s := by rw [← hU, ls_st]
  have HB := Lib.hid (show st (sld (ls U)) = st (Sct.bytes s) by rw [hUl]; rfl)
  have HU : st (hd8 s) ++ s.body = U := by rw [← hU]; unfold open8; rw [← st_append, st_ls]
  have HUz := Lib.hid (show U.size ≤ 1000000 by rw [ls_size, hUl, open8_length]; omega)
  have hpv : s.pv = false ∨ s.pv = true := by cases s.pv <;> simp
  have hnw : s.nw = false ∨ s.nw = true := by cases s.nw <;> simp
  have z8 : (st (hd8 s)).size = 8 := by rw [st_size]; rfl
  obtain ⟨H8, hH8⟩ : ∃ H8, st (hd8 s) = H8 := ⟨_, rfl⟩
  clear hU hUl
  have hs1 := SecAt.made w s 28
  obtain ⟨wA, hA⟩ : ∃ wA, w.alloc (.cells #[.int .i64 s.tb, .bool s.pv, .int .i64 s.ex, .int .i64 s.ver, .bool s.nw, .int .i64 s.num, .int .i64 s.la, .string s.body] 28) = wA := ⟨_, rfl⟩
  rw [hA] at hs1
  have hkA : Keeps w0 wA := by rw [← hA]; exact hk.alloc _
  obtain ⟨b, hb⟩ : ∃ b, w.heap.size = b := ⟨_, rfl⟩
  rw [hb] at hs1
  obtain ⟨q0, q1, q2, q3, q4, q5, q6, q7, _⟩ := hs1
  have r7 := fun o => cell_alloc1 o q7
  rcases hpv with p | p <;> rcases hnw with q | q
  · have hcv := hd8_conv hc (F := 176 + ((s.body.size : Int) + 9) / 256) (V := 192 + 2 * s.ver) (by unfold flg; rw [p, show bn false = 0 from rfl]; omega) (by unfold vby; rw [q, show bn false = 0 from rfl]; omega) wA _ rfl
    rw [hH8] at hcv HU z8
    clear hH8 hc
    obtain ⟨tb, pv, ex, ver, nw, num, la, S'⟩ := s
    simp only at p q h1 h2 h3 h4 h5 h6 h7 h8 h9 h10 h11 hcv hA HU q0 q1 q2 q3 q4 q5 q6 q7 r7
    subst p q
    go_enter Try.func15, Try.ntmps15
    go_wp2_with (go_at_call 25; refine (rseal_any w0 U _ HUz.out (hkA.alloc _)).mono ?_; rintro _ w9 ⟨rfl, k9⟩; rw [HB.out])
    go_ret
    exact ⟨rfl, k9⟩
  · have hcv := hd8_conv hc (F := 176 + ((s.body.size : Int) + 9) / 256) (V := 192 + 2 * s.ver + 1) (by unfold flg; rw [p, show bn false = 0 from rfl]; omega) (by unfold vby; rw [q, show bn true = 1 from rfl]; omega) wA _ rfl
    rw [hH8] at hcv HU z8
    clear hH8 hc
    obtain ⟨tb, pv, ex, ver, nw, num, la, S'⟩ := s
    simp only at p q h1 h2 h3 h4 h5 h6 h7 h8 h9 h10 h11 hcv hA HU q0 q1 q2 q3 q4 q5 q6 q7 r7
    subst p q
    go_enter Try.func15, Try.ntmps15
    go_wp2_with (go_at_call 25; refine (rseal_any w0 U _ HUz.out (hkA.alloc _)).mono ?_; rintro _ w9 ⟨rfl, k9⟩; rw [HB.out])
    go_ret
    exact ⟨rfl, k9⟩
  · have hcv := hd8_conv hc (F := 176 + ((s.body.size : Int) + 9) / 256 + 64) (V := 192 + 2 * s.ver) (by unfold flg; rw [p, show bn true = 1 from rfl]; omega) (by unfold vby; rw [q, show bn false = 0 from rfl]; omega) wA _ rfl
    rw [hH8] at hcv HU z8
    clear hH8 hc
    obtain ⟨tb, pv, ex, ver, nw, num, la, S'⟩ := s
    simp only at p q h1 h2 h3 h4 h5 h6 h7 h8 h9 h10 h11 hcv hA HU q0 q1 q2 q3 q4 q5 q6 q7 r7
    subst p q
    go_enter Try.func15, Try.ntmps15
    go_wp2_with (go_at_call 25; refine (rseal_any w0 U _ HUz.out (hkA.alloc _)).mono ?_; rintro _ w9 ⟨rfl, k9⟩; rw [HB.out])
    go_ret
    exact ⟨rfl, k9⟩
  · have hcv := hd8_conv hc (F := 176 + ((s.body.size : Int) + 9) / 256 + 64) (V := 192 + 2 * s.ver + 1) (by unfold flg; rw [p, show bn true = 1 from rfl]; omega) (by unfold vby; rw [q, show bn true = 1 from rfl]; omega) wA _ rfl
    rw [hH8] at hcv HU z8
    clear hH8 hc
    obtain ⟨tb, pv, ex, ver, nw, num, la, S'⟩ := s
    simp only at p q h1 h2 h3 h4 h5 h6 h7 h8 h9 h10 h11 hcv hA HU q0 q1 q2 q3 q4 q5 q6 q7 r7
    subst p q
    go_enter Try.func15, Try.ntmps15
    go_wp2_with (go_at_call 25; refine (rseal_any w0 U _ HUz.out (hkA.alloc _)).mono ?_; rintro _ w9 ⟨rfl, k9⟩; rw [HB.out])
    go_ret
    exact ⟨rfl, k9⟩
end Go.Proofs.Ytmfldnflcmbnjaa
