/-
  A writer of bits in memory: its last block, and those that are full; what step of package bits does. For up to a million bits.
-/
import Derived.Test.YtofnokikjfmfgaaBitsD
import Derived.Deep.MidRow
namespace Go.Proofs.Ytofnokikjfmfgaa
open Go.RowKit Go.Shelf Gf Bit
set_option maxRecDepth 100000
/-- Full blocks, m of them, from the last one on: byte j of all is f j; none of them is block b. -/
def Chain (w : World) (b : Nat) (f : Nat → UInt8) : Nat → Value → Prop
  | 0, v => v = .pointer none
  | m + 1, v => ∃ c u, v = .pointer (some ⟨c, 0, none⟩) ∧ c ≠ b ∧ w.cell? ⟨c, 0, none⟩ = some u ∧ (∀ k, k < 128 → w.cell? ⟨c, 1 + k, none⟩ = some (B (f (128 * m + k)))) ∧ Chain w b f m u
theorem Chain.only {w w' : World} {b : Nat} {f : Nat → UInt8} (k : Only b w w') : ∀ {m : Nat} {v : Value}, Chain w b f m v → Chain w' b f m v
  | 0, _, h => h
  | m + 1, _, h => by
    obtain ⟨c, u, e, hn, h0, hb, hr⟩ := h
    have hc := there_cell h0
    exact ⟨c, u, e, hn, (k.cell (p := ⟨c, 0, none⟩) hc hn).trans h0, fun i hi => (k.cell (p := ⟨c, 1 + i, none⟩) hc hn).trans (hb i hi), hr.only k⟩
theorem Chain.keeps {w w' : World} {b : Nat} {f : Nat → UInt8} (k : Keeps w w') {m : Nat} {v : Value} (h : Chain w b f m v) : Chain w' b f m v := h.only (Only.below k)
theorem Chain.congr {w : World} {b : Nat} {f g : Nat → UInt8} : ∀ {m : Nat} {v : Value}, Chain w b f m v → (∀ j, j < 128 * m → f j = g j) → Chain w b g m v
  | 0, _, h, _ => h
  | m + 1, _, h, hf => by
    obtain ⟨c, u, e, hn, h0, hb, hr⟩ := h
    exact ⟨c, u, e, hn, h0, fun i hi => by rw [hb i hi, hf _ (by omega)], hr.congr fun j hj => hf j (by omega)⟩
/-- A writer lies in block b: it has n bits, and byte j is f j. -/
structure OutR (b : Nat) (f : Nat → UInt8) (n : Nat) (w : World) : Prop where
  cnt : w.cell? ⟨b, 129, none⟩ = some (.int .i64 (n : Int))
  byte : ∀ k, k < 128 → w.cell? ⟨b, 1 + k, none⟩ = some (.int .u8 ((f (128 * (n / 1024) + k)).toNat : Int))
  free : ∀ k, k < 130 → w.frozen? ⟨b, k, none⟩ = false
  chain : ∃ v, w.cell? ⟨b, 0, none⟩ = some v ∧ Chain w b f (n / 1024) v
/-- A writer of the bits L. -/
def OutAt (b : Nat) (L : List Bool) (w : World) : Prop := OutR b (byt L) L.length w
theorem OutR.old {b : Nat} {f : Nat → UInt8} {n : Nat} {w : World} (h : OutR b f n w) : b < w.heap.size := there_cell h.cnt
theorem OutR.keeps {b : Nat} {f : Nat → UInt8} {n : Nat} {w w' : World} (h : OutR b f n w) (k : Keeps w w') : OutR b f n w' := by
  have ho := h.old
  obtain ⟨v, h1, h2⟩ := h.chain
  exact ⟨(Below.cell k (p := ⟨b, 129, none⟩) ho).trans h.cnt, fun i hi => (Below.cell k (p := ⟨b, 1 + i, none⟩) ho).trans (h.byte i hi), fun i hi => (Below.frozen k (p := ⟨b, i, none⟩) ho).trans (h.free i hi), v, (Below.cell k (p := ⟨b, 0, none⟩) ho).trans h1, h2.keeps k⟩
theorem OutR.eqv {b : Nat} {f : Nat → UInt8} {n : Nat} {w w' : World} (h : OutR b f n w) (k : Eqv w w') : OutR b f n w' := h.keeps ⟨k.os, k.tape, k.output, by rw [k.heap]; exact Nat.le_refl _, fun _ _ => by rw [k.heap]⟩
/-- A variable of a type whose zero is known. -/
theorem alloc_of {T : TypeId} {Z : Array Value} (hi : (Try.prog.info? T).map (·.zero) = some (some (.agg Z))) (w : World) : (Instr.alloc T true (.tuple #[])).run Try.prog w = .ok (.pointer (some ⟨w.heap.size, 0, none⟩)) (w.alloc (.cells Z T)) := by
  have hz : (zeroValue T).run Try.prog w = .ok (.agg Z) w := by
    cases hq : Try.prog.info? T with
    | none => rw [hq] at hi; cases hi
    | some i =>
      rw [hq] at hi
      simp at hi
      simp [zeroValue, typeInfo, hq, hi]
  simp only [Instr.alloc, Sem.run_bind, hz, Result.andThen_ok]
  rfl
theorem wpList_allocZ {ops : Array Oper} {rest : List Oper} {o : Oper} {a : Act} {w : World} {Q : Exit → Act → World → Prop} {T : TypeId} {Z : Array Value} (hi : (Try.prog.info? T).map (·.zero) = some (some (.agg Z))) (hg : o.guard = none) (ho : o.op = .alloc T)
    (h : wpList Try.prog ops Q rest (a.put o.dst (.pointer (some ⟨w.heap.size, 0, none⟩))) (w.alloc (.cells Z T))) : wpList Try.prog ops Q (o :: rest) a w := by
  refine wpList_plain hg fun _ hK => ?_
  have e : (execOp a.eval o).run Try.prog w = .ok (.value (.pointer (some ⟨w.heap.size, 0, none⟩))) (w.alloc (.cells Z T)) := by
    unfold execOp
    simp only [ho, Sem.run_bind, alloc_of hi, Result.andThen_ok]
    rfl
  unfold Oper.wp
  rw [e, Oper.upon_value]
  exact hK _ _ h
/-- A block's cells. -/
def bl (v : Value) (g : Nat → UInt8) : List Value := v :: (List.range 128).map fun k => B (g k)
theorem bl_length (v : Value) (g : Nat → UInt8) : (bl v g).length = 129 := by simp [bl]
theorem bl_zero (v : Value) (g : Nat → UInt8) : (bl v g)[0]? = some v := rfl
theorem bl_get (v : Value) (g : Nat → UInt8) {k : Nat} (h : k < 128) : (bl v g)[1 + k]? = some (B (g k)) := by
  rw [Nat.add_comm]; simp [bl, h]
theorem bl_one {v : Value} (hv : v.oneCell' = true) (g : Nat → UInt8) : ∀ u ∈ bl v g, u.oneCell' = true := by
  intro u hu
  rcases List.mem_cons.1 hu with rfl | hu
  · exact hv
  · obtain ⟨k, _, rfl⟩ := List.mem_map.1 hu; rfl
def zblk : Array Value := #[.pointer none] ++ Array.replicate 128 (.int .u8 0)
theorem infoBlk : (Try.prog.info? 80).map (·.zero) = some (some (.agg zblk)) := by kernel_rfl
theorem sizeBlk : (Try.prog.info? 80).map (·.size) = some 129 := by kernel_rfl
theorem builtBlk (c : Nat) : Try.prog.built 80 [(0, .pointer (some ⟨c, 0, none⟩))] = some (bl (.pointer (some ⟨c, 0, none⟩)) fun _ => 0).toArray := by kernel_rfl
theorem zblk_size : zblk.size = 129 := by simp [zblk]
theorem wpList_bblk {ops : Array Oper} {rest : List Oper} {o : Oper} {a : Act} {w : World} {Q : Exit → Act → World → Prop} (c : Nat) (x : Operand) (hg : o.guard = none) (ho : o.op = .build 80 #[(0, x)]) (hx : a.eval x = .pointer (some ⟨c, 0, none⟩))
    (h : wpList Try.prog ops Q rest (a.put o.dst (.agg (bl (.pointer (some ⟨c, 0, none⟩)) fun _ => 0).toArray)) w) : wpList Try.prog ops Q (o :: rest) a w := by
  have e : (Try.prog.built 80 ((#[(0, x)] : Array (Nat × Operand)).map fun (i, x) => (i, a.eval x)).toList) = some (bl (.pointer (some ⟨c, 0, none⟩)) fun _ => 0).toArray := by
    have : ((#[(0, x)] : Array (Nat × Operand)).map fun (i, x) => (i, a.eval x)).toList = [(0, .pointer (some ⟨c, 0, none⟩))] := by simp [hx]
    rw [this]; exact builtBlk c
  refine wpList_build hg 80 #[(0, x)] ho (by rw [e]; rfl) ?_
  rw [e]; exact h
theorem Chain.one {w : World} {b : Nat} {f : Nat → UInt8} : ∀ {m : Nat} {v : Value}, Chain w b f m v → v.oneCell' = true
  | 0, _, h => by rw [show _ = _ from h]; rfl
  | _ + 1, _, h => by obtain ⟨c, u, e, _⟩ := h; rw [e]; rfl
/-- The world behind a full block: it is block c from now on, and a new one has begun. -/
def fullW (w : World) (b : Nat) (TL : List Value) : World := ((w.alloc (.cells zblk 80)).setCells w.heap.size 0 TL).setCells b 0 (bl (.pointer (some ⟨w.heap.size, 0, none⟩)) fun _ => 0)
theorem full_out {b : Nat} {f : Nat → UInt8} {n m : Nat} {w : World} {v : Value} (hc : w.cell? ⟨b, 129, none⟩ = some (.int .i64 (n : Int))) (hb : ∀ k, k < 128 → w.cell? ⟨b, 1 + k, none⟩ = some (.int .u8 ((f (128 * m + k)).toNat : Int)))
    (hf : ∀ k, k < 130 → w.frozen? ⟨b, k, none⟩ = false) (hv : w.cell? ⟨b, 0, none⟩ = some v) (hch : Chain w b f m v) (hn : n = 1024 * (m + 1)) (hz : ∀ j, n ≤ 8 * j → f j = 0) :
    OutR b f n (fullW w b (bl v fun k => f (128 * m + k))) ∧ Only b w (fullW w b (bl v fun k => f (128 * m + k))) ∧ w.rangeAt b 0 (bl v fun k => f (128 * m + k)) ∧
    (w.alloc (.cells zblk 80)).there w.heap.size 0 129 ∧ ((w.alloc (.cells zblk 80)).setCells w.heap.size 0 (bl v fun k => f (128 * m + k))).there b 0 129 := by
  have hbo : b < w.heap.size := there_cell hc
  have hr : w.rangeAt b 0 (bl v fun k => f (128 * m + k)) := by
    intro j u hj
    have hl : j < 129 := by have := (List.getElem?_eq_some_iff.1 hj).1; rwa [bl_length] at this
    rw [Nat.zero_add]
    by_cases h0 : j = 0
    · subst h0; rw [bl_zero] at hj; rw [hv, hj]
    · rw [show j = 1 + (j - 1) by omega] at hj ⊢
      rw [bl_get _ _ (by omega)] at hj
      rw [hb _ (by omega)]; exact hj
  generalize hg : (fun k => f (128 * m + k)) = g at *
  have ht1 : (w.alloc (.cells zblk 80)).there w.heap.size 0 129 := by
    intro j hj
    rw [Nat.zero_add]
    refine ⟨?_, World.frozen?_alloc_new _ _ _ _⟩
    rw [World.cell?_alloc_new, Array.getElem?_eq_getElem (by rw [zblk_size]; exact hj)]; rfl
  have on1 : Only b w (w.alloc (.cells zblk 80)) := Only.alloc _ _ _
  have on2 : Only b w ((w.alloc (.cells zblk 80)).setCells w.heap.size 0 (bl v g)) := on1.far (only_setCells w.heap.size _ 0 _) (Nat.le_refl _)
  have k2 : Only w.heap.size w ((w.alloc (.cells zblk 80)).setCells w.heap.size 0 (bl v g)) := (Only.alloc _ _ _).trans (only_setCells w.heap.size _ 0 _)
  have hr2 : ((w.alloc (.cells zblk 80)).setCells w.heap.size 0 (bl v g)).rangeAt w.heap.size 0 (bl v g) := World.rangeAt_setCells_same _ _ _ _ (by rw [bl_length]; exact ht1)
  obtain ⟨w2, hw2⟩ : ∃ w2, (w.alloc (.cells zblk 80)).setCells w.heap.size 0 (bl v g) = w2 := ⟨_, rfl⟩
  have e3 : fullW w b (bl v g) = w2.setCells b 0 (bl (.pointer (some ⟨w.heap.size, 0, none⟩)) fun _ => 0) := by unfold fullW; rw [hw2]
  rw [hw2] at on2 k2 hr2 ⊢
  rw [e3]
  have cb : ∀ i, w2.cell? ⟨b, i, none⟩ = w.cell? ⟨b, i, none⟩ := fun i => k2.cell (p := ⟨b, i, none⟩) hbo (by show b ≠ w.heap.size; omega)
  have fb : ∀ i, w2.frozen? ⟨b, i, none⟩ = w.frozen? ⟨b, i, none⟩ := fun i => k2.frozen (p := ⟨b, i, none⟩) hbo (by show b ≠ w.heap.size; omega)
  have ht2 : w2.there b 0 129 := by
    intro j hj
    rw [Nat.zero_add, cb, fb]
    refine ⟨?_, hf j (by omega)⟩
    by_cases h0 : j = 0
    · subst h0; rw [hv]; rfl
    · rw [show j = 1 + (j - 1) by omega, hb _ (by omega)]; rfl
  have hc2 : w.heap.size < w2.heap.size := there_cell (hr2 0 v (bl_zero v g))
  have hr3 := World.rangeAt_setCells_same w2 b 0 (bl (.pointer (some ⟨w.heap.size, 0, none⟩)) fun _ => 0) (by rw [bl_length]; exact ht2)
  have hc3 := World.rangeAt_setCells_apart (w := w2) (b' := b) (o' := 129) (cs := [.int .i64 (n : Int)]) (fun j u hj => by
    cases j with
    | zero => simp at hj; subst hj; rw [cb]; exact hc
    | succ j => simp at hj) b 0 (bl (.pointer (some ⟨w.heap.size, 0, none⟩)) fun _ => 0) (.inr (.inr (by rw [bl_length]; omega)))
  have hfz : ∀ k, k < 130 → (w2.setCells b 0 (bl (.pointer (some ⟨w.heap.size, 0, none⟩)) fun _ => 0)).frozen? ⟨b, k, none⟩ = false := fun k hk => by rw [World.frozen?_setCells, fb]; exact hf k hk
  have k3 := only_setCells b (bl (.pointer (some ⟨w.heap.size, 0, none⟩)) fun _ => 0) 0 w2
  refine ⟨⟨?_, fun k hk => ?_, hfz, ?_⟩, on2.trans k3, hr, ht1, ht2⟩
  · exact hc3 0 _ rfl
  · have := hr3 (1 + k) _ (bl_get _ _ hk)
    rw [Nat.zero_add] at this
    rw [this, hz _ (by omega)]; rfl
  · have h0 := hr3 0 _ (bl_zero _ _)
    rw [Nat.zero_add] at h0
    refine ⟨_, h0, ?_⟩
    rw [show n / 1024 = m + 1 by omega]
    refine ⟨w.heap.size, v, rfl, by omega, ?_, fun k hk => ?_, (hch.only on2).only k3⟩
    · have h1 := hr2 0 v (bl_zero v g)
      rw [Nat.zero_add] at h1
      exact (k3.cell (p := ⟨w.heap.size, 0, none⟩) hc2 (by show w.heap.size ≠ b; omega)).trans h1
    · have h1 := hr2 (1 + k) _ (bl_get v g hk)
      rw [Nat.zero_add] at h1
      rw [← hg] at h1
      exact (k3.cell (p := ⟨w.heap.size, 1 + k, none⟩) hc2 (by show w.heap.size ≠ b; omega)).trans h1
set_option maxHeartbeats 4000000 in
theorem step_any {b : Nat} {f : Nat → UInt8} {n : Nat} {w : World} (h : OutR b f n w) (d : Nat) (hn : n + d ≤ 1000000) (hd : n % 1024 + d ≤ 1024) (hd0 : 0 < d) (hz : ∀ j, n + d ≤ 8 * j → f j = 0) :
    Calls Try.prog 67 #[.pointer (some ⟨b, 0, none⟩), .int .i64 (d : Int)] w fun e w' => (∃ v, e = .returned v) ∧ OutR b f (n + d) w' ∧ Only b w w' := by
  obtain ⟨h1, h2, h3, v, h4, h5⟩ := h
  have hf129 := h3 129 (by omega)
  have hnd : ((n + d : Nat) : Int) = (n : Int) + (d : Int) := by omega
  have on1 : Only b w (w.setCell ⟨b, 129, none⟩ (.int .i64 ((n : Int) + (d : Int)))) := Only.setCell w ⟨b, 129, none⟩ _
  have hc129 : (w.setCell ⟨b, 129, none⟩ (.int .i64 ((n : Int) + (d : Int)))).cell? ⟨b, 129, none⟩ = some (.int .i64 ((n : Int) + (d : Int))) := set_same h1
  have hb1 : ∀ k, k < 128 → (w.setCell ⟨b, 129, none⟩ (.int .i64 ((n : Int) + (d : Int)))).cell? ⟨b, 1 + k, none⟩ = some (.int .u8 ((f (128 * (n / 1024) + k)).toNat : Int)) := fun k hk => by rw [set_other (by omega)]; exact h2 k hk
  have hf1 : ∀ k, k < 130 → (w.setCell ⟨b, 129, none⟩ (.int .i64 ((n : Int) + (d : Int)))).frozen? ⟨b, k, none⟩ = false := fun k hk => by simp [h3 k hk]
  have hv1 : (w.setCell ⟨b, 129, none⟩ (.int .i64 ((n : Int) + (d : Int)))).cell? ⟨b, 0, none⟩ = some v := by rw [set_other (by omega)]; exact h4
  have hch := h5.only on1
  have H1 := Lib.hid h2
  have H2 := Lib.hid h3
  clear h2 h3 h5
  obtain ⟨w1, hw1⟩ : ∃ w1, w.setCell ⟨b, 129, none⟩ (.int .i64 ((n : Int) + (d : Int))) = w1 := ⟨_, rfl⟩
  rw [hw1] at on1 hc129 hb1 hf1 hv1 hch
  by_cases hm : (n + d) % 1024 = 0
  · have e1 : ((n : Int) + (d : Int)) % 1024 = 0 := by omega
    rw [← hnd] at hc129
    obtain ⟨hO, hon, hr, ht1, ht2⟩ := full_out hc129 hb1 hf1 hv1 hch (by omega) hz
    rw [hnd] at hc129
    have hsz := sizeBlk
    have h1c := all_oneCell_toArray (bl_one hch.one fun k => f (128 * (n / 1024) + k))
    obtain ⟨TL, hTL⟩ : ∃ TL, bl v (fun k => f (128 * (n / 1024) + k)) = TL := ⟨_, rfl⟩
    have hlen : TL.length = 129 := by rw [← hTL]; exact bl_length _ _
    rw [hTL] at hO hon hr ht2 h1c
    have hszT : (Try.prog.info? 80).map (·.size) = some TL.length := by rw [hlen]; exact hsz
    have hszA : (Try.prog.info? 80).map (·.size) = some TL.toArray.size := by rw [List.size_toArray]; exact hszT
    have ht1' : (w1.alloc (.cells zblk 80)).there w1.heap.size 0 TL.toArray.size := by rw [show TL.toArray.size = 129 from hlen]; exact ht1
    obtain ⟨NB, hNB⟩ : ∃ NB, bl (.pointer (some ⟨w1.heap.size, 0, none⟩)) (fun _ => 0) = NB := ⟨_, rfl⟩
    have hlenN : NB.length = 129 := by rw [← hNB]; exact bl_length _ _
    have ht2' : ((w1.alloc (.cells zblk 80)).setCells w1.heap.size 0 TL).there b 0 NB.toArray.size := by rw [show NB.toArray.size = 129 from hlenN]; exact ht2
    have hszN : (Try.prog.info? 80).map (·.size) = some NB.toArray.size := by rw [List.size_toArray, hlenN]; exact hsz
    have h1n : NB.toArray.all (·.oneCell') = true := by rw [← hNB]; exact all_oneCell_toArray (bl_one rfl _)
    have HF := Lib.hid (show fullW w1 b TL = ((w1.alloc (.cells zblk 80)).setCells w1.heap.size 0 TL).setCells b 0 NB by unfold fullW; rw [hNB])
    have HNB := Lib.hid hNB
    have HO := Lib.hid hO
    have HON := Lib.hid (on1.trans hon)
    have HTL := Lib.hid hTL
    clear hO hon hTL hNB hb1 hf1 hch
    go_enter Try.func67, Try.ntmps67
    go_wp2_with (first | (with_reducible refine wpList_load_mid rfl _ _ rfl b 0 rfl TL _ hr Try.underlying80 rfl hszT ?_) | (with_reducible refine wpList_allocZ infoBlk rfl rfl ?_) | (with_reducible refine wpList_store_mid rfl _ _ _ rfl w1.heap.size 0 TL.toArray rfl rfl ht1' hszA h1c ?_) | (with_reducible refine wpList_bblk w1.heap.size _ rfl rfl rfl ?_; rw [HNB.out]) | (with_reducible refine wpList_store_mid rfl _ _ _ rfl b 0 NB.toArray rfl rfl ht2' hszN h1n ?_))
    go_end0
    have hF := HF.out
    have hO := HO.out
    have hON := HON.out
    rw [hF] at hO hON
    exact ⟨⟨_, rfl⟩, hO, hON⟩
  · have e1 : ¬ (((n : Int) + (d : Int)) % 1024 = 0) := by omega
    go_enter Try.func67, Try.ntmps67
    go_wp2
    go_end0
    refine ⟨⟨_, rfl⟩, ⟨by rw [hnd]; exact hc129, fun k hk => ?_, hf1, v, hv1, ?_⟩, on1⟩
    · rw [hb1 k hk, show (n + d) / 1024 = n / 1024 by omega]
    · rw [show (n + d) / 1024 = n / 1024 by omega]; exact hch
end Go.Proofs.Ytofnokikjfmfgaa
