/-
  What the statements of layer 6 share: the chapter's example holds. The memory that was there stays.
-/
import Derived.Test.YtfkadmcndjohbaaBitsI
namespace Go.Proofs.Ytfkadmcndjohbaa
open Go.RowKit Go.Shelf Gf Bit
set_option maxRecDepth 100000
def zout : Array Value := #[.pointer none] ++ Array.replicate 128 (.int .u8 0) ++ #[.int .i64 0]
theorem infoOut : (Try.prog.info? 30).map (·.zero) = some (some (.agg zout)) := by kernel_rfl
theorem zout_get {i : Nat} (h : i < 128) : zout[1 + i]? = some (.int .u8 0) := by
  unfold zout
  rw [Array.getElem?_append_left (by simp; omega), Array.getElem?_append_right (by simp)]
  simp [h]
theorem out_zero (w : World) : OutAt w.heap.size [] (w.alloc (.cells zout 30)) := by
  refine ⟨?_, fun k hk => ?_, fun k _ => World.frozen?_alloc_new _ _ _ _, .pointer none, ?_, rfl⟩
  · rw [World.cell?_alloc_new]; rfl
  · rw [World.cell?_alloc_new, zout_get hk]; rfl
  · rw [World.cell?_alloc_new]; rfl
theorem Only.kept {c : Nat} {w0 w w' : World} (k : Only c w w') (h : Keeps w0 w) (hc : w0.heap.size ≤ c) : Keeps w0 w' := k.keeps h hc
theorem Keeps.size {w w' : World} (h : Keeps w w') : w.heap.size ≤ w'.heap.size := Below.size h
theorem Keeps.more {w0 w w' : World} (h : Keeps w0 w) (k : Keeps w w') : Keeps w0 w' := h.trans k
theorem un_of {x : Int} (h : 0 ≤ x ∧ x ≤ 18446744073709551615) : ∃ y : Nat, y < 2 ^ 64 ∧ x = un y := ⟨x.toNat, by omega, by unfold un; omega⟩
/-- Text of one string, as a call lays its row. -/
theorem otext_one {b : Nat} {L : List Bool} {W : World} (h : OutAt b L W) (s : ByteArray) (hL : L.length + 8 * s.size ≤ 1000000) :
    Calls Try.prog 25 #[.pointer (some ⟨b, 0, none⟩), .slice (some ⟨W.heap.size, 0, none⟩) 1 1] (W.alloc (.cells #[.string s] 9)) fun e w' => (∃ v, e = .returned v) ∧ OutAt b (L ++ ob (ls s)) w' ∧ Only b W w' := by
  have hb := OutR.old h
  have hk := Keeps.alloc (Keeps.refl W) (.cells #[.string s] 9)
  have := otext_any (cap := 1) (OutR.keeps h hk) [ls s] (IsT.one W s 9) (fun x e => by cases e; show W.heap.size ≠ b; omega) (by omega) (by rw [List.flatten_cons, List.flatten_nil, List.append_nil, ← ls_size]; exact hL)
  rw [List.flatten_cons, List.flatten_nil, List.append_nil] at this
  exact this.mono fun e w' hh => ⟨hh.1, hh.2.1, (Only.below hk).trans hh.2.2⟩
set_option maxHeartbeats 8000000 in
theorem awake6_any (w : World) : Calls Try.prog 10 #[] w fun e w' => e = .returned (.bool true) ∧ Keeps w w' := by
  go_enter Try.func10, Try.ntmps10
  have hO := out_zero w
  have hk := Keeps.alloc (Keeps.refl w) (.cells zout 30)
  have hM : ([] ++ lb 5 3) ++ lb 1 2 = [true, false, true, false, true] := by decide
  have hpk : st (pack [true, false, true, false, true]) = st [168] := by congr 1
  have hg3 : un (num (((ob (ls (st [168]))).drop 0).take 3)) = 5 := by decide
  have hs1 : (st [168]).toList = [168] := st_toList _
  go_wp2_with (first | (with_reducible refine wpList_allocZ infoOut rfl rfl ?_) | (go_at_call 24; refine (put_ok hO 5 3 (by decide) (by decide) (by decide)).mono ?_; rintro _ w1 ⟨rfl, hO1, k1⟩; have hk1 := k1.kept hk (Nat.le_refl _); clear hO) | (go_at_call 24; refine (put_ok hO1 1 2 (by decide) (by decide) (by decide)).mono ?_; rintro _ w2 ⟨rfl, hO2, k2⟩; have hk2 := k2.kept hk1 (Nat.le_refl _); rw [hM] at hO2; clear hO1) | (go_at_call 14; refine (string_any hO2 (by decide)).mono ?_; rintro _ w3 ⟨rfl, k3⟩; rw [hpk]; have hO3 := OutR.keeps hO2 k3; have hk3 := hk2.more k3; clear hO2) | (go_at_call 16; refine (read_any (st [168]) w3).mono ?_; rintro _ w4 ⟨rfl, hR4, k4⟩; have hO4 := OutR.keeps hO3 k4; have hk4 := hk3.more k4) | (go_at_call 20; refine (get_ok hR4 3 (by decide) (by decide) (by decide)).mono ?_; rintro _ w5 ⟨rfl, hR5, k5⟩; rw [hg3]; have hk5 := k5.kept (Keeps.refl w3 |>.more k4) (Nat.le_refl _); clear hR4) | (go_at_call 20; refine (get_short hR5 9 (by decide) (by decide) (by decide) (by decide)).mono ?_; rintro _ w6 ⟨rfl, hR6, k6⟩; have hk6 := k6.kept hk5 (Nat.le_refl _); have hO6 := OutR.keeps hO3 hk6; clear hR5) | (go_at_call 14; refine (string_any hO6 (by decide)).mono ?_; rintro _ w7 ⟨rfl, k7⟩; rw [hpk]; have hO7 := OutR.keeps hO6 k7; have hR7 := hR6.keeps k7) | (go_at_call 13; refine (olen_any hO7).mono ?_; rintro _ w8 ⟨rfl, rfl⟩) | (go_at_call 23; refine (rerr_any hR7).mono ?_; rintro _ w8 ⟨rfl, rfl⟩) | (go_at_call 21; refine (rat_any hR7).mono ?_; rintro _ w8 ⟨rfl, rfl⟩))
  go_ret
  exact ⟨rfl, (hk3.more hk6).more k7⟩
end Go.Proofs.Ytfkadmcndjohbaa
