/-
  What Encode of package section answers, and the document's Bytes. The memory that was there stays.
-/
import Derived.Test.YtifbomppgflkfaaDoorScD
import Derived.Test.YtifbomppgflkfaaDoorBitsOut
namespace Go.Proofs.YtifbomppgflkfaaDoor
open Go.RowKit Gf Sct Bit
set_option maxRecDepth 100000
/-- The fields as the array that the program writes. -/
def fi (s : Sec) : List (Int × Int) := [(s.tb, 8), (1, 1), ((bn s.pv : Int), 1), (3, 2), (9 + (s.body.size : Int), 12), (s.ex, 16), (3, 2), (s.ver, 5), ((bn s.nw : Int), 1), (s.num, 8), (s.la, 8)]
def fcs (l : List (Int × Int)) : List Value := l.flatMap fun p => [.int .i64 p.1, .int .i64 p.2]
theorem fcs_one (l : List (Int × Int)) : ∀ v ∈ fcs l, v.oneCell' = true := by
  intro v hv
  unfold fcs at hv
  obtain ⟨p, _, hp⟩ := List.mem_flatMap.1 hv
  simp only [List.mem_cons, List.not_mem_nil, or_false] at hp
  rcases hp with rfl | rfl <;> rfl
theorem fi_get {s : Sec} (h : chk s = 0) {k : Nat} (hk : k < 11) : ∃ (x n : Nat) (X N : Int), (fl s)[k]? = some (x, n) ∧ (fi s)[k]? = some (X, N) ∧ X = un x ∧ N = (n : Int) ∧ 0 ≤ X ∧ X ≤ 65535 ∧ 1 ≤ N ∧ N ≤ 16 ∧ x < 2 ^ 64 ∧ n ≤ 16 := by
  obtain ⟨⟨h1, h2, h3, h4, h5, h6, h7, h8, h9, h10⟩, h11⟩ := chk_fit h
  have b1 := bn_le s.pv
  have b2 := bn_le s.nw
  have t64 : (2 : Nat) ^ 64 = 18446744073709551616 := rfl
  have hk' : k = 0 ∨ k = 1 ∨ k = 2 ∨ k = 3 ∨ k = 4 ∨ k = 5 ∨ k = 6 ∨ k = 7 ∨ k = 8 ∨ k = 9 ∨ k = 10 := by omega
  rcases hk' with rfl | rfl | rfl | rfl | rfl | rfl | rfl | rfl | rfl | rfl | rfl
  all_goals (refine ⟨_, _, _, _, rfl, rfl, ?_, ?_, ?_, ?_, ?_, ?_, ?_, ?_⟩ <;> (try unfold un) <;> (try rw [t64]) <;> omega)
theorem fb_take {l : List (Nat × Nat)} {k : Nat} {x n : Nat} (h : l[k]? = some (x, n)) : fb (l.take k) ++ lb x n = fb (l.take (k + 1)) := by
  unfold fb
  rw [List.take_add_one, h, List.flatMap_append]; simp
theorem fb_len {s : Sec} (k : Nat) : (fb ((fl s).take k)).length ≤ 64 := by
  have e : (fb (fl s)).length = 64 := by unfold fb fl; simp [lb_length]
  have : fb (fl s) = fb ((fl s).take k) ++ fb ((fl s).drop k) := by unfold fb; rw [← List.flatMap_append, List.take_append_drop]
  rw [this, List.length_append] at e; omega
theorem rng_new (w : World) (cs : List Value) (t : TypeId) : (w.alloc (.cells cs.toArray t)).rangeAt w.heap.size 0 cs := by
  intro j v hv
  rw [World.cell?_alloc_new, Nat.zero_add, List.getElem?_toArray]; exact hv
/-- A section's bytes, or what is wrong with it. -/
def ecd (s : Sec) : List UInt8 × Int := if chk s = 0 then (Sct.bytes s, 0) else ([], chk s)
theorem ecd_ok {s : Sec} (h : chk s = 0) : ecd s = (Sct.bytes s, 0) := by unfold ecd; rw [if_pos h]
theorem ecd_no {s : Sec} (h : chk s ≠ 0) : ecd s = ([], chk s) := by unfold ecd; rw [if_neg h]
def ScEncPost (w0 : World) (s : Sec) (e : Ending) (w' : World) : Prop := e = .returned (.tuple #[.string (st (ecd s).1), .int .i64 (ecd s).2]) ∧ Keeps w0 w'
theorem ScEncPost.of {w0 W : World} {s : Sec} {l : List UInt8} {n : Int} {t : ByteArray} (e : ecd s = (l, n)) (ht : t = st l) (k : Keeps w0 W) : ScEncPost w0 s (.returned (.tuple #[.string t, .int .i64 n])) W := by unfold ScEncPost; rw [e, ht]; exact ⟨rfl, k⟩
theorem Once.sec {w2 w5 : World} {X : Obj} {L : Nat → Bool} {b : Nat} {s : Sec} (hw : Once 32 (Eqv w2) (Eqv (w2.alloc X)) L w5) (h : SecAt b s w2) : SecAt b s w5 := by
  cases e : L 32
  · exact h.eqv (hw.1 e)
  · exact (h.keeps ((Keeps.refl w2).alloc X)).eqv (hw.2 e)
theorem there_new (w : World) (cs : Array Value) (t : TypeId) : (w.alloc (.cells cs t)).there w.heap.size 0 cs.size := by
  intro j hj
  rw [Nat.zero_add]
  exact ⟨by rw [World.cell?_alloc_new]; simp; omega, World.frozen?_alloc_new _ _ _ _⟩
def encRel (w0 : World) (b bo : Nat) (s : Sec) (x : Value) (wr : World) : Prop := ∃ k : Nat, k ≤ 11 ∧ x = .int .i64 (k : Int) ∧ OutAt bo (fb ((fl s).take k)) wr ∧ SecAt b s wr ∧ Keeps w0 wr
end Go.Proofs.YtifbomppgflkfaaDoor
namespace Go.Proofs.YtifbomppgflkfaaDoor
open Go.RowKit Gf Sct Bit
set_option maxRecDepth 100000
theorem B_u8 {n : Nat} {x : Int} (h : n < 256) (e : (n : Int) = x) : B (u8 n) = .int .u8 x := by
  unfold B; rw [u8_nat h, e]
theorem hd8_conv {s : Sec} (h : chk s = 0) {F V : Int} (hF : (flg s : Int) = F) (hV : (vby s : Int) = V) (w : World) (C : Array Value)
    (hC : C = #[.int .u8 s.tb, .int .u8 F, .int .u8 (((s.body.size : Int) + 9) % 256), .int .u8 (s.ex / 256), .int .u8 (s.ex % 256), .int .u8 V, .int .u8 s.num, .int .u8 s.la]) :
    (convert 79 9 (.slice (some ⟨w.heap.size, 0, none⟩) 8 8)).run Tryd.prog (w.alloc (.cells C 5)) = .ok (.string (st (hd8 s))) (w.alloc (.cells C 5)) := by
  have hc := (Blk.lit w (hd8 s) 5).whole 8 (hd8_length s).symm
  obtain ⟨⟨h1, h2, h3, h4, h5, h6, h7, h8, h9, h10⟩, h11⟩ := chk_fit h
  have b1 := bn_le s.pv
  have b2 := bn_le s.nw
  have e : ((hd8 s).map B).toArray = C := by
    rw [hC]
    unfold hd8
    simp only [List.map_cons, List.map_nil]
    rw [B_u8 (x := s.tb) (by omega) (by omega), B_u8 (n := flg s) (by unfold flg; omega) hF, B_u8 (x := ((s.body.size : Int) + 9) % 256) (by omega) (by omega), B_u8 (n := s.ex.toNat / 256) (x := s.ex / 256) (by omega) (by omega), B_u8 (n := s.ex.toNat % 256) (x := s.ex % 256) (by omega) (by omega), B_u8 (n := vby s) (by unfold vby; omega) hV, B_u8 (x := s.num) (by omega) (by omega), B_u8 (x := s.la) (by omega) (by omega)]
  rwa [e] at hc
set_option maxHeartbeats 3200000 in
theorem scrbytes_any (w0 : World) (s : Sec) (w : World) (hc : chk s = 0) (hk : Keeps w0 w) :
    Calls Tryd.prog 31 #[secV s] w fun e w' => e = .returned (.string (st (Sct.bytes s))) ∧ Keeps w0 w' := by
  obtain ⟨hfit, h11⟩ := chk_fit hc
  obtain ⟨h1, h2, h3, h4, h5, h6, h7, h8, h9, h10⟩ := hfit
  obtain ⟨U, hU⟩ : ∃ U, st (open8 s) = U := ⟨_, rfl⟩
  have hUl : ls U = open8 s := by rw [← hU, ls_st]
  have HB := Lib.hid (show st (sld (ls U)) = st (Sct.bytes s) by rw [hUl]; rfl)
  have HU : st (hd8 s) ++ s.body = U := by rw [← hU]; unfold open8; rw [← st_append, st_ls]
  have HUz := Lib.hid (show U.size ≤ 1000000 by rw [ls_size, hUl, open8_length]; omega)
  have hpv : s.pv = false ∨ s.pv = true := by cases s.pv <;> simp
  have hnw : s.nw = false ∨ s.nw = true := by cases s.nw <;> simp
  have z8 : (st (hd8 s)).size = 8 := by rw [st_size]; rfl
  obtain ⟨H8, hH8⟩ : ∃ H8, st (hd8 s) = H8 := ⟨_, rfl⟩
  clear hU hUl
  have hs1 := SecAt.made w s 69
  obtain ⟨wA, hA⟩ : ∃ wA, w.alloc (.cells #[.int .i64 s.tb, .bool s.pv, .int .i64 s.ex, .int .i64 s.ver, .bool s.nw, .int .i64 s.num, .int .i64 s.la, .string s.body] 69) = wA := ⟨_, rfl⟩
  rw [hA] at hs1
  have hkA : Keeps w0 wA := by rw [← hA]; exact hk.alloc _
  obtain ⟨b, hb⟩ : ∃ b, w.heap.size = b := ⟨_, rfl⟩
  rw [hb] at hs1
  obtain ⟨q0, q1, q2, q3, q4, q5, q6, q7, _⟩ := hs1
  have r7 := fun o => cell_alloc1 o q7
  rcases hpv with p | p <;> rcases hnw with q | q
  · have hcv := hd8_conv hc (F := 176 + ((s.body.size : Int) + 9) / 256) (V := 192 + 2 * s.ver) (by unfold flg; rw [p, show bn false = 0 from rfl]; omega) (by unfold vby; rw [q, show bn false = 0 from rfl]; omega) wA _ rfl
    rw [hH8] at hcv HU z8
    clear hH8 hc
    obtain ⟨tb, pv, ex, ver, nw, num, la, S'⟩ := s
    simp only at p q h1 h2 h3 h4 h5 h6 h7 h8 h9 h10 h11 hcv hA HU q0 q1 q2 q3 q4 q5 q6 q7 r7
    subst p q
    go_enter Tryd.func31, Tryd.ntmps31
    go_wp2_with (go_at_call 40; refine (rseal_any w0 U _ HUz.out (hkA.alloc _)).mono ?_; rintro _ w9 ⟨rfl, k9⟩; rw [HB.out])
    go_ret
    exact ⟨rfl, k9⟩
  · have hcv := hd8_conv hc (F := 176 + ((s.body.size : Int) + 9) / 256) (V := 192 + 2 * s.ver + 1) (by unfold flg; rw [p, show bn false = 0 from rfl]; omega) (by unfold vby; rw [q, show bn true = 1 from rfl]; omega) wA _ rfl
    rw [hH8] at hcv HU z8
    clear hH8 hc
    obtain ⟨tb, pv, ex, ver, nw, num, la, S'⟩ := s
    simp only at p q h1 h2 h3 h4 h5 h6 h7 h8 h9 h10 h11 hcv hA HU q0 q1 q2 q3 q4 q5 q6 q7 r7
    subst p q
    go_enter Tryd.func31, Tryd.ntmps31
    go_wp2_with (go_at_call 40; refine (rseal_any w0 U _ HUz.out (hkA.alloc _)).mono ?_; rintro _ w9 ⟨rfl, k9⟩; rw [HB.out])
    go_ret
    exact ⟨rfl, k9⟩
  · have hcv := hd8_conv hc (F := 176 + ((s.body.size : Int) + 9) / 256 + 64) (V := 192 + 2 * s.ver) (by unfold flg; rw [p, show bn true = 1 from rfl]; omega) (by unfold vby; rw [q, show bn false = 0 from rfl]; omega) wA _ rfl
    rw [hH8] at hcv HU z8
    clear hH8 hc
    obtain ⟨tb, pv, ex, ver, nw, num, la, S'⟩ := s
    simp only at p q h1 h2 h3 h4 h5 h6 h7 h8 h9 h10 h11 hcv hA HU q0 q1 q2 q3 q4 q5 q6 q7 r7
    subst p q
    go_enter Tryd.func31, Tryd.ntmps31
    go_wp2_with (go_at_call 40; refine (rseal_any w0 U _ HUz.out (hkA.alloc _)).mono ?_; rintro _ w9 ⟨rfl, k9⟩; rw [HB.out])
    go_ret
    exact ⟨rfl, k9⟩
  · have hcv := hd8_conv hc (F := 176 + ((s.body.size : Int) + 9) / 256 + 64) (V := 192 + 2 * s.ver + 1) (by unfold flg; rw [p, show bn true = 1 from rfl]; omega) (by unfold vby; rw [q, show bn true = 1 from rfl]; omega) wA _ rfl
    rw [hH8] at hcv HU z8
    clear hH8 hc
    obtain ⟨tb, pv, ex, ver, nw, num, la, S'⟩ := s
    simp only at p q h1 h2 h3 h4 h5 h6 h7 h8 h9 h10 h11 hcv hA HU q0 q1 q2 q3 q4 q5 q6 q7 r7
    subst p q
    go_enter Tryd.func31, Tryd.ntmps31
    go_wp2_with (go_at_call 40; refine (rseal_any w0 U _ HUz.out (hkA.alloc _)).mono ?_; rintro _ w9 ⟨rfl, k9⟩; rw [HB.out])
    go_ret
    exact ⟨rfl, k9⟩
end Go.Proofs.YtifbomppgflkfaaDoor
