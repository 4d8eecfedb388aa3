/-
  The writer of fields of bits: Put, fill, Text, String and what they stand on; the chapter's example. For up to a million bits. The memory that was there stays.
-/
import Derived.Deep.MidRow
import Derived.Test.YtebfihghfkcicaaBitsIn
import Derived.Test.YtebfihghfkcicaaBase
namespace Go.Proofs.Ytebfihghfkcicaa
open Go.RowKit Go.Shelf Gf Bit
set_option maxRecDepth 100000
/-- Full blocks, m of them, from the last one on: byte j of all is f j; none of them is block b. -/
def Chain (w : World) (b : Nat) (f : Nat → UInt8) : Nat → Value → Prop
  | 0, v => v = .pointer none
  | m + 1, v => ∃ c u, v = .pointer (some ⟨c, 0, none⟩) ∧ c ≠ b ∧ w.cell? ⟨c, 0, none⟩ = some u ∧ (∀ k, k < 128 → w.cell? ⟨c, 1 + k, none⟩ = some (B (f (128 * m + k)))) ∧ Chain w b f m u
theorem Chain.only {w w' : World} {b : Nat} {f : Nat → UInt8} (k : Only b w w') : ∀ {m : Nat} {v : Value}, Chain w b f m v → Chain w' b f m v
  | 0, _, h => h
  | m + 1, _, h => by
    obtain ⟨c, u, e, hn, h0, hb, hr⟩ := h
    have hc := there_cell h0
    exact ⟨c, u, e, hn, (k.cell (p := ⟨c, 0, none⟩) hc hn).trans h0, fun i hi => (k.cell (p := ⟨c, 1 + i, none⟩) hc hn).trans (hb i hi), hr.only k⟩
theorem Chain.keeps {w w' : World} {b : Nat} {f : Nat → UInt8} (k : Keeps w w') {m : Nat} {v : Value} (h : Chain w b f m v) : Chain w' b f m v := h.only (Only.below k)
theorem Chain.congr {w : World} {b : Nat} {f g : Nat → UInt8} : ∀ {m : Nat} {v : Value}, Chain w b f m v → (∀ j, j < 128 * m → f j = g j) → Chain w b g m v
  | 0, _, h, _ => h
  | m + 1, _, h, hf => by
    obtain ⟨c, u, e, hn, h0, hb, hr⟩ := h
    exact ⟨c, u, e, hn, h0, fun i hi => by rw [hb i hi, hf _ (by omega)], hr.congr fun j hj => hf j (by omega)⟩
/-- A writer lies in block b: it has n bits, and byte j is f j. -/
structure OutR (b : Nat) (f : Nat → UInt8) (n : Nat) (w : World) : Prop where
  cnt : w.cell? ⟨b, 129, none⟩ = some (.int .i64 (n : Int))
  byte : ∀ k, k < 128 → w.cell? ⟨b, 1 + k, none⟩ = some (.int .u8 ((f (128 * (n / 1024) + k)).toNat : Int))
  free : ∀ k, k < 130 → w.frozen? ⟨b, k, none⟩ = false
  chain : ∃ v, w.cell? ⟨b, 0, none⟩ = some v ∧ Chain w b f (n / 1024) v
/-- A writer of the bits L. -/
def OutAt (b : Nat) (L : List Bool) (w : World) : Prop := OutR b (byt L) L.length w
theorem OutR.old {b : Nat} {f : Nat → UInt8} {n : Nat} {w : World} (h : OutR b f n w) : b < w.heap.size := there_cell h.cnt
theorem OutR.keeps {b : Nat} {f : Nat → UInt8} {n : Nat} {w w' : World} (h : OutR b f n w) (k : Keeps w w') : OutR b f n w' := by
  have ho := h.old
  obtain ⟨v, h1, h2⟩ := h.chain
  exact ⟨(Below.cell k (p := ⟨b, 129, none⟩) ho).trans h.cnt, fun i hi => (Below.cell k (p := ⟨b, 1 + i, none⟩) ho).trans (h.byte i hi), fun i hi => (Below.frozen k (p := ⟨b, i, none⟩) ho).trans (h.free i hi), v, (Below.cell k (p := ⟨b, 0, none⟩) ho).trans h1, h2.keeps k⟩
theorem OutR.eqv {b : Nat} {f : Nat → UInt8} {n : Nat} {w w' : World} (h : OutR b f n w) (k : Eqv w w') : OutR b f n w' := h.keeps ⟨k.os, k.tape, k.output, by rw [k.heap]; exact Nat.le_refl _, fun _ _ => by rw [k.heap]⟩
/-- A variable of a type whose zero is known. -/
theorem alloc_of {T : TypeId} {Z : Array Value} (hi : (Try.prog.info? T).map (·.zero) = some (some (.agg Z))) (w : World) : (Instr.alloc T true (.tuple #[])).run Try.prog w = .ok (.pointer (some ⟨w.heap.size, 0, none⟩)) (w.alloc (.cells Z T)) := by
  have hz : (zeroValue T).run Try.prog w = .ok (.agg Z) w := by
    cases hq : Try.prog.info? T with
    | none => rw [hq] at hi; cases hi
    | some i =>
      rw [hq] at hi
      simp at hi
      simp [zeroValue, typeInfo, hq, hi]
  simp only [Instr.alloc, Sem.run_bind, hz, Result.andThen_ok]
  rfl
theorem wpList_allocZ {ops : Array Oper} {rest : List Oper} {o : Oper} {a : Act} {w : World} {Q : Exit → Act → World → Prop} {T : TypeId} {Z : Array Value} (hi : (Try.prog.info? T).map (·.zero) = some (some (.agg Z))) (hg : o.guard = none) (ho : o.op = .alloc T)
    (h : wpList Try.prog ops Q rest (a.put o.dst (.pointer (some ⟨w.heap.size, 0, none⟩))) (w.alloc (.cells Z T))) : wpList Try.prog ops Q (o :: rest) a w := by
  refine wpList_plain hg fun _ hK => ?_
  have e : (execOp a.eval o).run Try.prog w = .ok (.value (.pointer (some ⟨w.heap.size, 0, none⟩))) (w.alloc (.cells Z T)) := by
    unfold execOp
    simp only [ho, Sem.run_bind, alloc_of hi, Result.andThen_ok]
    rfl
  unfold Oper.wp
  rw [e, Oper.upon_value]
  exact hK _ _ h
/-- A block's cells. -/
def bl (v : Value) (g : Nat → UInt8) : List Value := v :: (List.range 128).map fun k => B (g k)
theorem bl_length (v : Value) (g : Nat → UInt8) : (bl v g).length = 129 := by simp [bl]
theorem bl_zero (v : Value) (g : Nat → UInt8) : (bl v g)[0]? = some v := rfl
theorem bl_get (v : Value) (g : Nat → UInt8) {k : Nat} (h : k < 128) : (bl v g)[1 + k]? = some (B (g k)) := by
  rw [Nat.add_comm]; simp [bl, h]
theorem bl_one {v : Value} (hv : v.oneCell' = true) (g : Nat → UInt8) : ∀ u ∈ bl v g, u.oneCell' = true := by
  intro u hu
  rcases List.mem_cons.1 hu with rfl | hu
  · exact hv
  · obtain ⟨k, _, rfl⟩ := List.mem_map.1 hu; rfl
def zblk : Array Value := #[.pointer none] ++ Array.replicate 128 (.int .u8 0)
theorem infoBlk : (Try.prog.info? 86).map (·.zero) = some (some (.agg zblk)) := by kernel_rfl
theorem sizeBlk : (Try.prog.info? 86).map (·.size) = some 129 := by kernel_rfl
theorem builtBlk (c : Nat) : Try.prog.built 86 [(0, .pointer (some ⟨c, 0, none⟩))] = some (bl (.pointer (some ⟨c, 0, none⟩)) fun _ => 0).toArray := by kernel_rfl
theorem zblk_size : zblk.size = 129 := by simp [zblk]
theorem wpList_bblk {ops : Array Oper} {rest : List Oper} {o : Oper} {a : Act} {w : World} {Q : Exit → Act → World → Prop} (c : Nat) (x : Operand) (hg : o.guard = none) (ho : o.op = .build 86 #[(0, x)]) (hx : a.eval x = .pointer (some ⟨c, 0, none⟩))
    (h : wpList Try.prog ops Q rest (a.put o.dst (.agg (bl (.pointer (some ⟨c, 0, none⟩)) fun _ => 0).toArray)) w) : wpList Try.prog ops Q (o :: rest) a w := by
  have e : (Try.prog.built 86 ((#[(0, x)] : Array (Nat × Operand)).map fun (i, x) => (i, a.eval x)).toList) = some (bl (.pointer (some ⟨c, 0, none⟩)) fun _ => 0).toArray := by
    have : ((#[(0, x)] : Array (Nat × Operand)).map fun (i, x) => (i, a.eval x)).toList = [(0, .pointer (some ⟨c, 0, none⟩))] := by simp [hx]
    rw [this]; exact builtBlk c
  refine wpList_build hg 86 #[(0, x)] ho (by rw [e]; rfl) ?_
  rw [e]; exact h
theorem Chain.one {w : World} {b : Nat} {f : Nat → UInt8} : ∀ {m : Nat} {v : Value}, Chain w b f m v → v.oneCell' = true
  | 0, _, h => by rw [show _ = _ from h]; rfl
  | _ + 1, _, h => by obtain ⟨c, u, e, _⟩ := h; rw [e]; rfl
/-- The world behind a full block: it is block c from now on, and a new one has begun. -/
def fullW (w : World) (b : Nat) (TL : List Value) : World := ((w.alloc (.cells zblk 86)).setCells w.heap.size 0 TL).setCells b 0 (bl (.pointer (some ⟨w.heap.size, 0, none⟩)) fun _ => 0)
theorem full_out {b : Nat} {f : Nat → UInt8} {n m : Nat} {w : World} {v : Value} (hc : w.cell? ⟨b, 129, none⟩ = some (.int .i64 (n : Int))) (hb : ∀ k, k < 128 → w.cell? ⟨b, 1 + k, none⟩ = some (.int .u8 ((f (128 * m + k)).toNat : Int)))
    (hf : ∀ k, k < 130 → w.frozen? ⟨b, k, none⟩ = false) (hv : w.cell? ⟨b, 0, none⟩ = some v) (hch : Chain w b f m v) (hn : n = 1024 * (m + 1)) (hz : ∀ j, n ≤ 8 * j → f j = 0) :
    OutR b f n (fullW w b (bl v fun k => f (128 * m + k))) ∧ Only b w (fullW w b (bl v fun k => f (128 * m + k))) ∧ w.rangeAt b 0 (bl v fun k => f (128 * m + k)) ∧
    (w.alloc (.cells zblk 86)).there w.heap.size 0 129 ∧ ((w.alloc (.cells zblk 86)).setCells w.heap.size 0 (bl v fun k => f (128 * m + k))).there b 0 129 := by
  have hbo : b < w.heap.size := there_cell hc
  have hr : w.rangeAt b 0 (bl v fun k => f (128 * m + k)) := by
    intro j u hj
    have hl : j < 129 := by have := (List.getElem?_eq_some_iff.1 hj).1; rwa [bl_length] at this
    rw [Nat.zero_add]
    by_cases h0 : j = 0
    · subst h0; rw [bl_zero] at hj; rw [hv, hj]
    · rw [show j = 1 + (j - 1) by omega] at hj ⊢
      rw [bl_get _ _ (by omega)] at hj
      rw [hb _ (by omega)]; exact hj
  generalize hg : (fun k => f (128 * m + k)) = g at *
  have ht1 : (w.alloc (.cells zblk 86)).there w.heap.size 0 129 := by
    intro j hj
    rw [Nat.zero_add]
    refine ⟨?_, World.frozen?_alloc_new _ _ _ _⟩
    rw [World.cell?_alloc_new, Array.getElem?_eq_getElem (by rw [zblk_size]; exact hj)]; rfl
  have on1 : Only b w (w.alloc (.cells zblk 86)) := Only.alloc _ _ _
  have on2 : Only b w ((w.alloc (.cells zblk 86)).setCells w.heap.size 0 (bl v g)) := on1.far (only_setCells w.heap.size _ 0 _) (Nat.le_refl _)
  have k2 : Only w.heap.size w ((w.alloc (.cells zblk 86)).setCells w.heap.size 0 (bl v g)) := (Only.alloc _ _ _).trans (only_setCells w.heap.size _ 0 _)
  have hr2 : ((w.alloc (.cells zblk 86)).setCells w.heap.size 0 (bl v g)).rangeAt w.heap.size 0 (bl v g) := World.rangeAt_setCells_same _ _ _ _ (by rw [bl_length]; exact ht1)
  obtain ⟨w2, hw2⟩ : ∃ w2, (w.alloc (.cells zblk 86)).setCells w.heap.size 0 (bl v g) = w2 := ⟨_, rfl⟩
  have e3 : fullW w b (bl v g) = w2.setCells b 0 (bl (.pointer (some ⟨w.heap.size, 0, none⟩)) fun _ => 0) := by unfold fullW; rw [hw2]
  rw [hw2] at on2 k2 hr2 ⊢
  rw [e3]
  have cb : ∀ i, w2.cell? ⟨b, i, none⟩ = w.cell? ⟨b, i, none⟩ := fun i => k2.cell (p := ⟨b, i, none⟩) hbo (by show b ≠ w.heap.size; omega)
  have fb : ∀ i, w2.frozen? ⟨b, i, none⟩ = w.frozen? ⟨b, i, none⟩ := fun i => k2.frozen (p := ⟨b, i, none⟩) hbo (by show b ≠ w.heap.size; omega)
  have ht2 : w2.there b 0 129 := by
    intro j hj
    rw [Nat.zero_add, cb, fb]
    refine ⟨?_, hf j (by omega)⟩
    by_cases h0 : j = 0
    · subst h0; rw [hv]; rfl
    · rw [show j = 1 + (j - 1) by omega, hb _ (by omega)]; rfl
  have hc2 : w.heap.size < w2.heap.size := there_cell (hr2 0 v (bl_zero v g))
  have hr3 := World.rangeAt_setCells_same w2 b 0 (bl (.pointer (some ⟨w.heap.size, 0, none⟩)) fun _ => 0) (by rw [bl_length]; exact ht2)
  have hc3 := World.rangeAt_setCells_apart (w := w2) (b' := b) (o' := 129) (cs := [.int .i64 (n : Int)]) (fun j u hj => by
    cases j with
    | zero => simp at hj; subst hj; rw [cb]; exact hc
    | succ j => simp at hj) b 0 (bl (.pointer (some ⟨w.heap.size, 0, none⟩)) fun _ => 0) (.inr (.inr (by rw [bl_length]; omega)))
  have hfz : ∀ k, k < 130 → (w2.setCells b 0 (bl (.pointer (some ⟨w.heap.size, 0, none⟩)) fun _ => 0)).frozen? ⟨b, k, none⟩ = false := fun k hk => by rw [World.frozen?_setCells, fb]; exact hf k hk
  have k3 := only_setCells b (bl (.pointer (some ⟨w.heap.size, 0, none⟩)) fun _ => 0) 0 w2
  refine ⟨⟨?_, fun k hk => ?_, hfz, ?_⟩, on2.trans k3, hr, ht1, ht2⟩
  · exact hc3 0 _ rfl
  · have := hr3 (1 + k) _ (bl_get _ _ hk)
    rw [Nat.zero_add] at this
    rw [this, hz _ (by omega)]; rfl
  · have h0 := hr3 0 _ (bl_zero _ _)
    rw [Nat.zero_add] at h0
    refine ⟨_, h0, ?_⟩
    rw [show n / 1024 = m + 1 by omega]
    refine ⟨w.heap.size, v, rfl, by omega, ?_, fun k hk => ?_, (hch.only on2).only k3⟩
    · have h1 := hr2 0 v (bl_zero v g)
      rw [Nat.zero_add] at h1
      exact (k3.cell (p := ⟨w.heap.size, 0, none⟩) hc2 (by show w.heap.size ≠ b; omega)).trans h1
    · have h1 := hr2 (1 + k) _ (bl_get v g hk)
      rw [Nat.zero_add] at h1
      rw [← hg] at h1
      exact (k3.cell (p := ⟨w.heap.size, 1 + k, none⟩) hc2 (by show w.heap.size ≠ b; omega)).trans h1
set_option maxHeartbeats 4000000 in
theorem step_any {b : Nat} {f : Nat → UInt8} {n : Nat} {w : World} (h : OutR b f n w) (d : Nat) (hn : n + d ≤ 1000000) (hd : n % 1024 + d ≤ 1024) (hd0 : 0 < d) (hz : ∀ j, n + d ≤ 8 * j → f j = 0) :
    Calls Try.prog 50 #[.pointer (some ⟨b, 0, none⟩), .int .i64 (d : Int)] w fun e w' => (∃ v, e = .returned v) ∧ OutR b f (n + d) w' ∧ Only b w w' := by
  obtain ⟨h1, h2, h3, v, h4, h5⟩ := h
  have hf129 := h3 129 (by omega)
  have hnd : ((n + d : Nat) : Int) = (n : Int) + (d : Int) := by omega
  have on1 : Only b w (w.setCell ⟨b, 129, none⟩ (.int .i64 ((n : Int) + (d : Int)))) := Only.setCell w ⟨b, 129, none⟩ _
  have hc129 : (w.setCell ⟨b, 129, none⟩ (.int .i64 ((n : Int) + (d : Int)))).cell? ⟨b, 129, none⟩ = some (.int .i64 ((n : Int) + (d : Int))) := set_same h1
  have hb1 : ∀ k, k < 128 → (w.setCell ⟨b, 129, none⟩ (.int .i64 ((n : Int) + (d : Int)))).cell? ⟨b, 1 + k, none⟩ = some (.int .u8 ((f (128 * (n / 1024) + k)).toNat : Int)) := fun k hk => by rw [set_other (by omega)]; exact h2 k hk
  have hf1 : ∀ k, k < 130 → (w.setCell ⟨b, 129, none⟩ (.int .i64 ((n : Int) + (d : Int)))).frozen? ⟨b, k, none⟩ = false := fun k hk => by simp [h3 k hk]
  have hv1 : (w.setCell ⟨b, 129, none⟩ (.int .i64 ((n : Int) + (d : Int)))).cell? ⟨b, 0, none⟩ = some v := by rw [set_other (by omega)]; exact h4
  have hch := h5.only on1
  have H1 := Lib.hid h2
  have H2 := Lib.hid h3
  clear h2 h3 h5
  obtain ⟨w1, hw1⟩ : ∃ w1, w.setCell ⟨b, 129, none⟩ (.int .i64 ((n : Int) + (d : Int))) = w1 := ⟨_, rfl⟩
  rw [hw1] at on1 hc129 hb1 hf1 hv1 hch
  by_cases hm : (n + d) % 1024 = 0
  · have e1 : ((n : Int) + (d : Int)) % 1024 = 0 := by omega
    rw [← hnd] at hc129
    obtain ⟨hO, hon, hr, ht1, ht2⟩ := full_out hc129 hb1 hf1 hv1 hch (by omega) hz
    rw [hnd] at hc129
    have hsz := sizeBlk
    have h1c := all_oneCell_toArray (bl_one hch.one fun k => f (128 * (n / 1024) + k))
    obtain ⟨TL, hTL⟩ : ∃ TL, bl v (fun k => f (128 * (n / 1024) + k)) = TL := ⟨_, rfl⟩
    have hlen : TL.length = 129 := by rw [← hTL]; exact bl_length _ _
    rw [hTL] at hO hon hr ht2 h1c
    have hszT : (Try.prog.info? 86).map (·.size) = some TL.length := by rw [hlen]; exact hsz
    have hszA : (Try.prog.info? 86).map (·.size) = some TL.toArray.size := by rw [List.size_toArray]; exact hszT
    have ht1' : (w1.alloc (.cells zblk 86)).there w1.heap.size 0 TL.toArray.size := by rw [show TL.toArray.size = 129 from hlen]; exact ht1
    obtain ⟨NB, hNB⟩ : ∃ NB, bl (.pointer (some ⟨w1.heap.size, 0, none⟩)) (fun _ => 0) = NB := ⟨_, rfl⟩
    have hlenN : NB.length = 129 := by rw [← hNB]; exact bl_length _ _
    have ht2' : ((w1.alloc (.cells zblk 86)).setCells w1.heap.size 0 TL).there b 0 NB.toArray.size := by rw [show NB.toArray.size = 129 from hlenN]; exact ht2
    have hszN : (Try.prog.info? 86).map (·.size) = some NB.toArray.size := by rw [List.size_toArray, hlenN]; exact hsz
    have h1n : NB.toArray.all (·.oneCell') = true := by rw [← hNB]; exact all_oneCell_toArray (bl_one rfl _)
    have HF := Lib.hid (show fullW w1 b TL = ((w1.alloc (.cells zblk 86)).setCells w1.heap.size 0 TL).setCells b 0 NB by unfold fullW; rw [hNB])
    have HNB := Lib.hid hNB
    have HO := Lib.hid hO
    have HON := Lib.hid (on1.trans hon)
    have HTL := Lib.hid hTL
    clear hO hon hTL hNB hb1 hf1 hch
    go_enter Try.func50, Try.ntmps50
    go_wp2_with (first | (with_reducible refine wpList_load_mid rfl _ _ rfl b 0 rfl TL _ hr Try.underlying86 rfl hszT ?_) | (with_reducible refine wpList_allocZ infoBlk rfl rfl ?_) | (with_reducible refine wpList_store_mid rfl _ _ _ rfl w1.heap.size 0 TL.toArray rfl rfl ht1' hszA h1c ?_) | (with_reducible refine wpList_bblk w1.heap.size _ rfl rfl rfl ?_; rw [HNB.out]) | (with_reducible refine wpList_store_mid rfl _ _ _ rfl b 0 NB.toArray rfl rfl ht2' hszN h1n ?_))
    go_end0
    have hF := HF.out
    have hO := HO.out
    have hON := HON.out
    rw [hF] at hO hON
    exact ⟨⟨_, rfl⟩, hO, hON⟩
  · have e1 : ¬ (((n : Int) + (d : Int)) % 1024 = 0) := by omega
    go_enter Try.func50, Try.ntmps50
    go_wp2
    go_end0
    refine ⟨⟨_, rfl⟩, ⟨by rw [hnd]; exact hc129, fun k hk => ?_, hf1, v, hv1, ?_⟩, on1⟩
    · rw [hb1 k hk, show (n + d) / 1024 = n / 1024 by omega]
    · rw [show (n + d) / 1024 = n / 1024 by omega]; exact hch
end Go.Proofs.Ytebfihghfkcicaa
namespace Go.Proofs.Ytebfihghfkcicaa
open Go.RowKit Go.Shelf Gf Bit
set_option maxRecDepth 100000
attribute [local go_sem] Oper.semAt_some
theorem bit64 {x : Nat} (hx : x < 2 ^ 64) (t : Nat) : bits BinOp.and IntKind.u64 (un x / 2 ^ t) 1 = bI (x.testBit t) := by
  have h : x / 2 ^ t < 2 ^ 64 := Nat.lt_of_le_of_lt (Nat.div_le_self _ _) hx
  unfold un
  rw [show ((x : Int) / 2 ^ t) = ((x / 2 ^ t : Nat) : Int) by rw [Int.natCast_ediv, Int.natCast_pow]; rfl, show (1 : Int) = ((1 : Nat) : Int) from rfl, u64_and_nat _ _ h (by decide), Nat.and_one_is_mod, nat_bit]
  rfl
/-- The iterator over the N lowest bits of x: J k holds ahead of bit k. -/
theorem low1_in (n : Nat) (hn : 1 ≤ n) (l Bn Bx : Nat) (x N : Nat) (hx : x < 2 ^ 64) (hN : N ≤ 64) (J : Nat → World → Prop)
    (hJ : ∀ k W, J k W → W.cell? ⟨Bx, 0, none⟩ = some (.int .u64 (un x)))
    (hY : ∀ k W, k < N → J k W → YieldAt Fence.wide (n - 1) Try.prog l #[.int .u8 (bI (bt (lb x N) k))] W fun x W' => x = .returned (.bool true) ∧ J (k + 1) W')
    (W : World) (hBn : W.cell? ⟨Bn, 0, none⟩ = some (.int .i64 (N : Int))) (h0 : J 0 W) :
    CallsIn Fence.wide n Try.prog 55 #[.func (.yield l) #[] #[], .pointer (some ⟨Bn, 0, none⟩), .pointer (some ⟨Bx, 0, none⟩)] W fun x W' => (∃ v, x = .returned v) ∧ J N W' := by
  have HX := Lib.hid hx
  clear hx
  refine callsIn_of_wp Try.func55 rfl trivial ?_ rfl
  simp only [Try.ntmps55, List.size_toArray, List.length_cons, List.length_nil, Nat.reduceAdd, Nat.reduceSub, Array.replicate_succ, Array.replicate_zero, List.push_toArray, List.append_toArray, List.nil_append, List.cons_append]
  gi_wp2
  gi_loopw [4] (fun i wr => ∃ k : Nat, i = .int .i64 ((N : Int) - 1 - (k : Int)) ∧ k ≤ N ∧ J k wr) (fun i _ => (intOf i + 1).toNat)
  case atStart => exact ⟨0, by congr 1; omega, by omega, h0⟩
  case round =>
    obtain ⟨k, rfl, hk, hj⟩ := hrel
    have hc := hJ k wr hj
    by_cases hlt : k < N
    · obtain ⟨m, hm⟩ : ∃ m, N - 1 - k = m := ⟨_, rfl⟩
      have e1 : (N : Int) - 1 - (k : Int) = (m : Int) := by omega
      have hm63 : m ≤ 63 := by omega
      rw [e1]
      have e3 := bit64 HX.out m
      have HB := Lib.hid (show bI (x.testBit m) = bI (bt (lb x N) k) by rw [bt_lb x hlt, hm])
      have HY := Lib.hid (hY k wr hlt hj)
      rw [← HB.out] at HY
      clear hY hJ
      have hb := bI_bd (x.testBit m)
      generalize bI (x.testBit m) = v at *
      have hv : IntKind.u8.wrap v = v := by rw [IntKind.wrap_u8']; omega
      obtain ⟨fn, tmps, assign, body, hy, hR⟩ := HY.out
      gi_wp2
      refine hR.mono ?_
      rintro x W3 ⟨rfl, hJ3⟩
      gi_wp2
      go_roundw
      case rel => exact ⟨k + 1, by congr 1; omega, by omega, hJ3⟩
      case measure => simp [intOf]
    · obtain rfl : N = k := by omega
      have e1 : (N : Int) - 1 - (N : Int) = -1 := by omega
      rw [e1]
      gi_wp2
      go_end0
      exact ⟨⟨_, rfl⟩, hj⟩
theorem low_in (n : Nat) (x : Int) (N : Int) (w : World) :
    CallsIn Fence.wide n Try.prog 49 #[.int .u64 x, .int .i64 N] w fun e w' => e = .returned (.func (.func 55) #[] #[.pointer (some ⟨w.heap.size + 1, 0, none⟩), .pointer (some ⟨w.heap.size, 0, none⟩)]) ∧ w' = (w.alloc (.cells #[.int .u64 x] 90)).alloc (.cells #[.int .i64 N] 3) := by
  refine callsIn_of_wp Try.func49 rfl trivial ?_ rfl
  simp only [Try.ntmps49, List.size_toArray, List.length_cons, List.length_nil, Nat.reduceAdd, Nat.reduceSub, Array.replicate_succ, Array.replicate_zero, List.push_toArray, List.append_toArray, List.nil_append, List.cons_append]
  gi_wp2
  go_ret
  exact ⟨rfl, rfl⟩
theorem Chain.grown {w w' : World} {row : Option Nat} {b : Nat} {f : Nat → UInt8} (hg : w.grownBy w' row) (hr : ∀ r, row = some r → ∃ o : Obj, w.heap[r]? = some o ∧ o.isCells = false) : ∀ {m : Nat} {v : Value}, Chain w b f m v → Chain w' b f m v
  | 0, _, h => h
  | m + 1, _, h => by
    obtain ⟨c, u, e, hn, h0, hb, hch⟩ := h
    exact ⟨c, u, e, hn, cell_kept h0 hg hr, fun i hi => cell_kept (hb i hi) hg hr, hch.grown hg hr⟩
theorem OutR.grown {w w' : World} {row : Option Nat} {b : Nat} {f : Nat → UInt8} {n : Nat} (h : OutR b f n w) (hg : w.grownBy w' row) (hr : ∀ r, row = some r → ∃ o : Obj, w.heap[r]? = some o ∧ o.isCells = false) : OutR b f n w' := by
  obtain ⟨v, h1, h2⟩ := h.chain
  refine ⟨cell_kept h.cnt hg hr, fun i hi => cell_kept (h.byte i hi) hg hr, fun i hi => ?_, v, cell_kept h1 hg hr, h2.grown hg hr⟩
  have hb := h.free i hi
  have e : w'.heap[b]? = w.heap[b]? := by
    refine hg.block b h.old fun e => ?_
    obtain ⟨o, ho, hc⟩ := hr b e.symm
    obtain ⟨o2, ho2, hc2⟩ := cells_of_cell h.cnt
    rw [show (⟨b, 129, none⟩ : Addr).block = b from rfl] at ho2
    rw [ho] at ho2; cases ho2; rw [hc] at hc2; cases hc2
  exact (World.frozen?_of_block (w := w) (a := ⟨b, i, none⟩) e).trans hb
/-- While bits are written: the writer's box is block X, the number's the next one. -/
structure WrJ (w : World) (b X x : Nat) (L : List Bool) (W : World) : Prop where
  out : OutAt b L W
  co : W.cell? ⟨X, 0, none⟩ = some (.pointer (some ⟨b, 0, none⟩))
  cx : W.cell? ⟨X + 1, 0, none⟩ = some (.int .u64 (un x))
  on : Only b w W
theorem WrJ.grown {w W W' : World} {row : Option Nat} {b X x : Nat} {L : List Bool} (h : WrJ w b X x L W) (hg : W.grownBy W' row) (hr : ∀ r, row = some r → w.heap.size ≤ r ∧ ∃ o : Obj, W.heap[r]? = some o ∧ o.isCells = false) : WrJ w b X x L W' := by
  have hr2 := fun r e => (hr r e).2
  refine ⟨h.out.grown hg hr2, cell_kept h.co hg hr2, cell_kept h.cx hg hr2, ?_⟩
  exact ⟨hg.os.trans h.on.os, hg.tape.trans h.on.tape, hg.output.trans h.on.output, Nat.le_trans h.on.size hg.size, fun k hk hn => (hg.block k (Nat.lt_of_lt_of_le hk h.on.size) fun e => by have := (hr k e.symm).1; omega).trans (h.on.block k hk hn)⟩
theorem WrJ.put {w W : World} {b X x l : Nat} {L : List Bool} {o : Obj} (h : WrJ w b X x L W) (o' : Obj) (hl : w.heap.size ≤ l) (ho : W.heap[l]? = some o) (hc : o.isCells = false) : WrJ w b X x L (W.putObj l o') :=
  h.grown (grownBy_putObj' W l o') fun r e => by cases e; exact ⟨hl, o, ho, hc⟩
theorem only_others {b : Nat} {W W' : World} {a : Addr} {v : Value} (hc : W.cell? a = some v) (hb : a.block = b) (k : Only b W W') : KeepsOthers W W' :=
  ⟨k.size, fun i o hi ho => by
    refine (k.block i (Array.getElem?_eq_some_iff.1 hi).1 fun e => ?_).trans hi
    obtain ⟨o2, ho2, hc2⟩ := cells_of_cell hc
    rw [hb, ← e, hi] at ho2; cases ho2; rw [ho] at hc2; cases hc2⟩
/-- One more bit, in its byte: the writer's bytes are those of one bit more, ahead of step. -/
theorem put_bit {b : Nat} {L : List Bool} {W : World} (h : OutAt b L W) (v : Bool) {z : UInt8} (hz : z.toNat = (byt L (L.length / 8)).toNat ||| (v.toNat * 2 ^ (7 - L.length % 8))) :
    OutR b (byt (L ++ [v])) L.length (W.setCell ⟨b, 1 + L.length / 8 % 128, none⟩ (.int .u8 (z.toNat : Int))) := by
  have hz2 : z = byt (L ++ [v]) (L.length / 8) := by
    apply UInt8.toNat_inj.1; rw [hz, byt_snoc]
  obtain ⟨u, h1, h2⟩ := h.chain
  have k := Only.setCell W ⟨b, 1 + L.length / 8 % 128, none⟩ (.int .u8 (z.toNat : Int))
  refine ⟨(set_other (by omega)).trans h.cnt, fun i hi => ?_, fun i hi => by simp [h.free i hi], u, (set_other (by omega)).trans h1, (h2.only k).congr fun j hj => ?_⟩
  · by_cases e : i = L.length / 8 % 128
    · subst e
      rw [set_same (h.byte _ hi), hz2, show 128 * (L.length / 1024) + L.length / 8 % 128 = L.length / 8 by omega]
    · rw [set_other (by omega), h.byte i hi, byt_other L v (by omega)]
  · exact (byt_left [v] (by omega)).symm
end Go.Proofs.Ytebfihghfkcicaa
namespace Go.Proofs.Ytebfihghfkcicaa
open Go.RowKit Go.Shelf Gf Bit
set_option maxRecDepth 100000
attribute [local go_sem] Oper.semAt_some
theorem wrap64 {n : Int} (h : -9223372036854775808 ≤ n ∧ n ≤ 9223372036854775807) : IntKind.i64.wrap n = n := by simp [IntKind.wrap, IntKind.bits, IntKind.signed]; omega
/-- A bit at its place in a byte, or-ed to it. -/
theorem or_bit {y : UInt8} {v : Bool} {t : Nat} (ht : t ≤ 7) : ∃ z : UInt8, z.toNat = y.toNat ||| (v.toNat * 2 ^ t) ∧ bits BinOp.or IntKind.u8 (y.toNat : Int) (IntKind.u8.wrap (bI v * 2 ^ t)) = (z.toNat : Int) := by
  have hb : v.toNat * 2 ^ t < 2 ^ 8 := by
    have : 2 ^ t ≤ 2 ^ 7 := Nat.pow_le_pow_right (by decide) ht
    cases v
    · show 0 * _ < _; omega
    · show 1 * _ < _; omega
  have hlt : y.toNat ||| (v.toNat * 2 ^ t) < 2 ^ 8 := Nat.or_lt_two_pow y.toNat_lt hb
  refine ⟨UInt8.ofNat (y.toNat ||| (v.toNat * 2 ^ t)), UInt8.toNat_ofNat_of_lt' hlt, ?_⟩
  rw [UInt8.toNat_ofNat_of_lt' hlt]
  unfold bI
  rw [show ((v.toNat : Int) * 2 ^ t) = ((v.toNat * 2 ^ t : Nat) : Int) by rw [Int.natCast_mul, Int.natCast_pow]; rfl, IntKind.wrap_u8']
  have hm : ((v.toNat * 2 ^ t : Nat) : Int) % 256 = ((v.toNat * 2 ^ t : Nat) : Int) := by omega
  rw [hm, u8_or_nat _ _ y.toNat_lt hb]
theorem byt_past {L : List Bool} {n : Nat} (h : L.length ≤ n) : ∀ j, n ≤ 8 * j → byt L j = 0 := fun _ hj => byt_big (by omega)
set_option maxHeartbeats 8000000 in
theorem write_in {b : Nat} {L : List Bool} {w : World} (h : OutAt b L w) (x N : Nat) (hx : x < 2 ^ 64) (hN : N ≤ 64) (hL : L.length + N ≤ 1000000) :
    CallsIn Fence.wide 5 Try.prog 41 #[.pointer (some ⟨b, 0, none⟩), .int .u64 (un x), .int .i64 (N : Int)] w fun e w' => (∃ v, e = .returned v) ∧ OutAt b (L ++ lb x N) w' ∧ Only b w w' := by
  have HX := Lib.hid hx
  clear hx
  refine callsIn_of_wp_marks Try.func41 rfl trivial ?_ rfl
  simp only [Try.ntmps41, List.size_toArray, List.length_cons, List.length_nil, Nat.reduceAdd, Nat.reduceSub, Array.replicate_succ, Array.replicate_zero, List.push_toArray, List.append_toArray, List.nil_append, List.cons_append]
  gi_wp2
  refine ⟨trivial, (low_in _ _ _ _).mono ?_⟩
  rintro x0 w' ⟨rfl, rfl⟩
  gi_wp2
  have hbo := OutR.old h
  have c0 := cell_new1 w (.pointer (some ⟨b, 0, none⟩)) 100
  have c1 := cell_new1 (w.alloc (.cells #[.pointer (some ⟨b, 0, none⟩)] 100)) (.int .u64 (un x)) 90
  have c2 := cell_new1 ((w.alloc (.cells #[.pointer (some ⟨b, 0, none⟩)] 100)).alloc (.cells #[.int .u64 (un x)] 90)) (.int .i64 (N : Int)) 3
  simp only [World.size_alloc] at c1 c2
  have k3 : Keeps w (((w.alloc (.cells #[.pointer (some ⟨b, 0, none⟩)] 100)).alloc (.cells #[.int .u64 (un x)] 90)).alloc (.cells #[.int .i64 (N : Int)] 3)) := (((Keeps.refl w).alloc _).alloc _).alloc _
  have j0 : WrJ w b w.heap.size x (L ++ (lb x N).take 0) (((w.alloc (.cells #[.pointer (some ⟨b, 0, none⟩)] 100)).alloc (.cells #[.int .u64 (un x)] 90)).alloc (.cells #[.int .i64 (N : Int)] 3)) :=
    ⟨by rw [List.take_zero, List.append_nil]; exact OutR.keeps h k3, cell_alloc1 _ (cell_alloc1 _ c0.1), cell_alloc1 _ c1.1, Only.below k3⟩
  have d2 := c2.1
  have sz : (((w.alloc (.cells #[.pointer (some ⟨b, 0, none⟩)] 100)).alloc (.cells #[.int .u64 (un x)] 90)).alloc (.cells #[.int .i64 (N : Int)] 3)).heap.size = w.heap.size + 3 := by simp
  obtain ⟨w3, hw3⟩ : ∃ w3, ((w.alloc (.cells #[.pointer (some ⟨b, 0, none⟩)] 100)).alloc (.cells #[.int .u64 (un x)] 90)).alloc (.cells #[.int .i64 (N : Int)] 3) = w3 := ⟨_, rfl⟩
  rw [hw3] at j0 d2 sz
  rw [hw3]
  clear hw3 k3 c0 c1 c2 h
  obtain ⟨X, hX⟩ : ∃ X, w.heap.size = X := ⟨_, rfl⟩
  rw [hX] at j0 d2 sz hbo
  rw [hX]
  refine wpIn_range (gf := 55) rfl (enters_of Try.func55 (by kernel_rfl) rfl) (fun W => (∃ r, W.heap[w3.heap.size + 1]? = some (.loop r)) ∧ WrJ w b X x (L ++ lb x N) W) ?hit ?done
  case hit =>
    intro fn r hr hLp
    rw [sz] at hLp ⊢
    have hW1 : Keeps w3 ((w3.alloc (.deferred (some []))).alloc (.loop r)) := ((Keeps.refl w3).alloc _).alloc _
    refine (low1_in (5 - 1) (by omega) (X + 3 + 1) (X + 1 + 1) (X + 1) x N HX.out hN (fun k W => Lp (X + 3) (X + 3 + 1) r W ∧ WrJ w b X x (L ++ (lb x N).take k) W) (fun k W hJ => hJ.2.cx) ?hY _ ?_ ?_).mono fun x0 W' hh => ⟨hh.1, hh.2.1, ⟨r, hh.2.1.loop⟩, by have := hh.2.2; rwa [List.take_of_length_le (by rw [lb_length]; exact Nat.le_refl _)] at this⟩
    case hY =>
      rintro k W hk ⟨hl, hj⟩
      have HTK := Lib.hid (show L ++ (lb x N).take (k + 1) = (L ++ (lb x N).take k) ++ [bt (lb x N) k] by
        rw [List.take_succ_eq_append_getElem (by rw [lb_length]; exact hk), bt_lt (by rw [lb_length]; exact hk), List.append_assoc])
      have hlen : (L ++ (lb x N).take k).length = L.length + k := by rw [List.length_append, List.length_take, lb_length]; omega
      rw [HTK.out]
      generalize L ++ (lb x N).take k = M at *
      generalize bt (lb x N) k = vb at *
      have hb1 := bI_bd vb
      obtain ⟨v, hv⟩ : ∃ v, bI vb = v := ⟨_, rfl⟩
      have HV := Lib.hid hv
      rw [hv] at hb1 ⊢
      refine YieldAt.mono (yield_round hl (by omega) (by rw [hr]) (by rw [hr]) (by rw [hr]; rfl) (a₁ := ?a1) (WrJ w b X x (M ++ [vb])) ?_ ?_) ?_
      case a1 => exact { tmps := #[.pointer (some ⟨b, 0, none⟩), .int .u64 (un x), .int .i64 (N : Int), .pointer (some ⟨X, 0, none⟩), undef, undef, .int .u8 v, .int .u64 (un x), .int .i64 (N : Int), .func (.func 55) #[] #[.pointer (some ⟨X + 1 + 1, 0, none⟩), .pointer (some ⟨X + 1, 0, none⟩)], .int .u8 v, undef, undef, undef, undef, undef, undef, undef, undef, undef, undef, undef, undef, undef, undef, undef, undef, undef, undef, undef, undef, undef, undef, undef, undef, undef, undef, undef], defers := [] }
      · intro K hK
        rw [hr]
        gi_wp2
        exact hK
      · have hj4 := hj.put (.loop { r with state := .busy }) (by omega) hl.loop rfl
        generalize W.putObj (X + 3 + 1) (.loop { r with state := .busy }) = W4 at *
        obtain ⟨hO, co, cx, on⟩ := hj4
        rw [hr]
        have hfit := OutR.byte hO (M.length / 8 % 128) (by omega)
        rw [show 128 * (M.length / 1024) + M.length / 8 % 128 = M.length / 8 by omega] at hfit
        have hfz := OutR.free hO (1 + M.length / 8 % 128) (by omega)
        have hcn := OutR.cnt hO
        obtain ⟨z, hz1, hz2⟩ := or_bit (y := byt M (M.length / 8)) (v := vb) (t := 7 - M.length % 8) (by omega)
        have HP := Lib.hid (put_bit hO vb hz1)
        have hMl : M.length ≤ 1000000 := by omega
        have hM1 : M.length + 1 ≤ 1000000 := by omega
        rw [hv] at hz2
        have HO := Lib.hid hO
        have HCX := Lib.hid cx
        have HON := Lib.hid on
        clear hO hz1 cx on
        generalize byt M (M.length / 8) = y at *
        obtain ⟨n, hn⟩ : ∃ n, M.length = n := ⟨_, rfl⟩
        rw [hn] at hfit hfz hcn hz2 hMl hM1 HP
        have HNN := Lib.hid hn
        clear hn hlen
        obtain ⟨i, hi⟩ : ∃ i, n / 8 % 128 = i := ⟨_, rfl⟩
        obtain ⟨t, ht⟩ : ∃ t, 7 - n % 8 = t := ⟨_, rfl⟩
        rw [hi] at hfit hfz HP
        rw [ht] at hz2
        have hi128 : i < 128 := by omega
        have ht7 : t ≤ 7 := by omega
        obtain ⟨q, hq⟩ : ∃ q, n / 8 = q := ⟨_, rfl⟩
        obtain ⟨r8, hr8⟩ : ∃ r8, n % 8 = r8 := ⟨_, rfl⟩
        have e1 : IntKind.i64.wrap ((n : Int) / 8) = (q : Int) := by rw [wrap64 (by omega)]; omega
        have e2 : (q : Int).tmod 128 = (i : Int) := by rw [Int.tmod_eq_emod_of_nonneg (by omega)]; omega
        have e3 : (n : Int).tmod 8 = (r8 : Int) := by rw [Int.tmod_eq_emod_of_nonneg (by omega)]; omega
        have hiI : (i : Int) < 128 := by omega
        have e4 : IntKind.i64.wrap (7 - (r8 : Int)) = (t : Int) := by rw [wrap64 (by omega)]; omega
        obtain ⟨sv, hsv⟩ : ∃ sv, IntKind.u8.wrap (v * 2 ^ t) = sv := ⟨_, rfl⟩
        rw [hsv] at hz2
        obtain ⟨ad, had⟩ : ∃ ad : Addr, ad = ⟨b, 1 + i, none⟩ := ⟨_, rfl⟩
        have HAD := Lib.hid had
        clear had
        gi_wp2
        refine wpIn_draw (by kernel_rfl)
          [.pointer (some ⟨b, 0, none⟩), .pointer (some ⟨b, 0, none⟩), .pointer (some ⟨b, 0, none⟩), .pointer (some ⟨b, 129, none⟩), .int .i64 (n : Int), .int .i64 (q : Int), .int .i64 (i : Int), .pointer (some ⟨b, 0, none⟩), .pointer (some ⟨b, 0, none⟩), .pointer (some ⟨b, 1, none⟩), .pointer (some ⟨b, 1 + i, none⟩), .int .u8 (y.toNat : Int), .int .u8 v, .pointer (some ⟨b, 0, none⟩), .pointer (some ⟨b, 0, none⟩), .pointer (some ⟨b, 129, none⟩), .int .i64 (n : Int), .int .i64 (r8 : Int), .int .i64 (t : Int), .int .u8 sv, .int .u8 (z.toNat : Int), .pointer (some ⟨b, 0, none⟩), .pointer (some ⟨b, 0, none⟩), .pointer (some ⟨b, 1, none⟩), .pointer (some ⟨b, 1 + i, none⟩), undef]
          (Once 25 (Eqv W4) (Eqv (W4.setCell ad (.int .u8 (z.toNat : Int)))))
          rfl (by kernel_rfl) (fin := ?fin) ?hfin (Once.start (Eqv.drew W4)) ?each ?hend
        case hfin => simp [seqA, dstOf, Act.put]; rfl
        case each =>
          refine ⟨?_, ?_, ?_, ?_, ?_, ?_, ?_, ?_, ?_, ?_, ?_, ?_, ?_, ?_, ?_, ?_, ?_, ?_, ?_, ?_, ?_, ?_, ?_, ?_, ?_, ?_, trivial⟩
          all_goals intro L7 w7 h0 hd hs hw
          all_goals try simp only [Nat.zero_add, Nat.reduceAdd] at h0
          all_goals unfold Does
          all_goals try (go_simp; exact fun L' k => hw.same (by decide) k)
          · have hc := ((hw.1 (hs.no (by kernel_rfl) h0)).cell _).trans co
            go_simp; exact fun L' k => hw.same (by decide) k
          · have hc := ((hw.1 (hs.no (by kernel_rfl) h0)).cell _).trans co
            go_simp; exact fun L' k => hw.same (by decide) k
          · have hc := ((hw.1 (hs.no (by kernel_rfl) h0)).cell _).trans hcn
            go_simp; exact fun L' k => hw.same (by decide) k
          · have hc := ((hw.1 (hs.no (by kernel_rfl) h0)).cell _).trans hfit
            go_simp; exact fun L' k => hw.same (by decide) k
          · have hc := ((hw.1 (hs.no (by kernel_rfl) h0)).cell _).trans co
            go_simp; exact fun L' k => hw.same (by decide) k
          · have hc := ((hw.1 (hs.no (by kernel_rfl) h0)).cell _).trans hcn
            go_simp; exact fun L' k => hw.same (by decide) k
          · have hA := hw.1 h0
            have hc1 := (hA.cell _).trans hfit
            have hc2 := (hA.frozen _).trans hfz
            go_simp
            exact fun L' k => Once.done k (by rw [HAD.out]; exact hA.setCell _ _)
        case hend =>
          intro L7 w7 hL7 hw
          have hC := hw.2 (hL7 25 (by simp))
          rw [HAD.out] at hC
          have hO7 := HP.out.eqv hC
          have k7 : Only b W4 w7 := (Only.setCell W4 ⟨b, 1 + i, none⟩ _).trans (Only.eqv hC)
          have co7 := (k7.cell (p := ⟨X, 0, none⟩) (there_cell co) (by show X ≠ b; omega)).trans co
          have hs7 := step_any hO7 1 (by omega) (by omega) (by omega) (byt_past (by rw [List.length_append, HNN.out]; exact Nat.le_refl _))
          have HK7 := Lib.hid k7
          have HS7 := Lib.hid hs7
          clear hw hL7 hC hO7 k7 hs7 hz2 hfit hfz hcn
          gi_wp2
          refine ⟨trivial, CallsIn.inRound _ (callsIn_wide.2 ?_)⟩
          refine HS7.out.mono ?_
          rintro x0 w9 ⟨⟨u, rfl⟩, hO9, k9⟩
          gi_wp2
          have k49 := HK7.out.trans k9
          refine ⟨only_others (OutR.cnt HO.out) rfl k49, ?_, (k49.cell (p := ⟨X, 0, none⟩) (there_cell co) (by show X ≠ b; omega)).trans co, (k49.cell (p := ⟨X + 1, 0, none⟩) (there_cell HCX.out) (by show X + 1 ≠ b; omega)).trans HCX.out, HON.out.trans k49⟩
          unfold OutAt
          rw [List.length_append, HNN.out]; exact hO9
      · rintro x0 W'' ⟨rfl, h1, W', h2, rfl, h3⟩
        have hl4 : W'.heap[X + 3 + 1]? = some (.loop { r with state := .busy }) := h3.same _ _ (World.putObj_heap_same (Array.getElem?_eq_some_iff.1 hl.loop).1) rfl
        exact ⟨rfl, h1, h2.put _ (by omega) hl4 rfl⟩
    · exact (hW1.trans (Below.refl _ _)).cell (p := ⟨X + 1 + 1, 0, none⟩) (there_cell d2) |>.trans d2
    · exact ⟨hLp, (j0.grown (World.grownBy_alloc w3 _ none) (fun r e => by cases e)).grown (World.grownBy_alloc _ _ none) (fun r e => by cases e)⟩
  case done =>
    intro W o hE hd
    obtain ⟨⟨r, hl⟩, hj⟩ := hE
    have hj2 := hj.put o (by omega) hl rfl
    generalize W.putObj (w3.heap.size + 1) o = W5 at *
    gi_wp2
    refine ⟨by simp, .inl ⟨_, _, rfl, run_takeDeferred hd, ?_⟩⟩
    have hj3 := hj2.put (.deferred none) (by omega) hd rfl
    exact ⟨_, results_none rfl _ _ _, ⟨_, rfl⟩, hj3.out, hj3.on⟩
theorem write_any {b : Nat} {L : List Bool} {w : World} (h : OutAt b L w) (x N : Nat) (hx : x < 2 ^ 64) (hN : N ≤ 64) (hL : L.length + N ≤ 1000000) :
    Calls Try.prog 41 #[.pointer (some ⟨b, 0, none⟩), .int .u64 (un x), .int .i64 (N : Int)] w fun e w' => (∃ v, e = .returned v) ∧ OutAt b (L ++ lb x N) w' ∧ Only b w w' :=
  (callsIn_wide (n := 5)).1 (write_in h x N hx hN hL)
/-- The N lowest bits of x. -/
theorem put_ok {b : Nat} {L : List Bool} {w : World} (h : OutAt b L w) (x N : Nat) (hx : x < 2 ^ 64) (hN : N ≤ 64) (hL : L.length + N ≤ 1000000) :
    Calls Try.prog 31 #[.pointer (some ⟨b, 0, none⟩), .int .u64 (un x), .int .i64 (N : Int)] w fun e w' => e = .returned (.int .i64 0) ∧ OutAt b (L ++ lb x N) w' ∧ Only b w w' := by
  have HW := Lib.hid (write_any h x N hx hN hL)
  clear h hx
  have hn0 : ¬ ((N : Int) < 0) := by omega
  have hn1 : ¬ ((64 : Int) < (N : Int)) := by omega
  go_enter Try.func31, Try.ntmps31
  go_wp2_with (go_at_call 41; refine HW.out.mono ?_; rintro e w' ⟨⟨v, rfl⟩, h1, h2⟩)
  go_ret
  exact ⟨rfl, h1, h2⟩
theorem put_arg {b : Nat} {x : Int} {n : Int} {w : World} (hn : n < 0 ∨ n > 64) :
    Calls Try.prog 31 #[.pointer (some ⟨b, 0, none⟩), .int .u64 x, .int .i64 n] w fun e w' => e = .returned (.int .i64 1) ∧ w = w' := by
  go_enter Try.func31, Try.ntmps31
  rcases hn with hn | hn
  · go_wp2
    go_ret
    exact ⟨rfl, rfl⟩
  · have h1 : ¬ (n < 0) := by omega
    go_wp2
    go_ret
    exact ⟨rfl, rfl⟩
end Go.Proofs.Ytebfihghfkcicaa
namespace Go.Proofs.Ytebfihghfkcicaa
open Go.RowKit Go.Shelf Gf Bit
set_option maxRecDepth 100000
theorem cell_apart {b k : Nat} : ∀ (vs : List Value) (o : Nat) (w : World), k < o ∨ o + vs.length ≤ k → (w.setCells b o vs).cell? ⟨b, k, none⟩ = w.cell? ⟨b, k, none⟩
  | [], _, _, _ => rfl
  | v :: r, o, w, h => by
    show ((w.setCell ⟨b, o, none⟩ v).setCells b (o + 1) r).cell? _ = _
    rw [cell_apart r (o + 1) _ (by rw [List.length_cons] at h; omega)]
    exact set_other (by rw [List.length_cons] at h; omega)
theorem Eqv.setCells {w w' : World} (h : Eqv w w') (b : Nat) : ∀ (vs : List Value) (o : Nat), Eqv (w.setCells b o vs) (w'.setCells b o vs) := by
  intro vs
  induction vs generalizing w w' with
  | nil => intro _; exact h
  | cons v r ih => intro o; exact ih (h.setCell ⟨b, o, none⟩ v) (o + 1)
/-- Whole bytes, in their places: ahead of step. -/
theorem put_bytes {b : Nat} {M : List Bool} {W : World} (h : OutAt b M W) (h8 : M.length % 8 = 0) (vs : List UInt8) (hv : M.length / 8 % 128 + vs.length ≤ 128) :
    OutR b (byt (M ++ ob vs)) M.length (W.setCells b (1 + M.length / 8 % 128) (vs.map B)) ∧ W.there b (1 + M.length / 8 % 128) vs.length := by
  have ht : W.there b (1 + M.length / 8 % 128) vs.length := fun j hj => ⟨by rw [Nat.add_assoc, OutR.byte h (M.length / 8 % 128 + j) (by omega)]; rfl, OutR.free h _ (by omega)⟩
  obtain ⟨u, h1, h2⟩ := h.chain
  have k := only_setCells b (vs.map B) (1 + M.length / 8 % 128) W
  refine ⟨⟨(cell_apart _ _ _ (by rw [List.length_map]; omega)).trans h.cnt, fun i hi => ?_, fun i hi => by rw [World.frozen?_setCells]; exact h.free i hi, u, (cell_apart _ _ _ (by omega)).trans h1, (h2.only k).congr fun j hj => ?_⟩, ht⟩
  · by_cases e : M.length / 8 % 128 ≤ i ∧ i < M.length / 8 % 128 + vs.length
    · have hj : i - M.length / 8 % 128 < (vs.map B).length := by rw [List.length_map]; omega
      have h3 := World.cell?_setCells_in b (vs.map B) (1 + M.length / 8 % 128) W (fun j hj => by rw [List.length_map] at hj; exact (ht j hj).1) (i - M.length / 8 % 128) hj
      rw [show 1 + M.length / 8 % 128 + (i - M.length / 8 % 128) = 1 + i by omega, List.getElem_map] at h3
      rw [h3, show 128 * (M.length / 1024) + i = M.length / 8 + (i - M.length / 8 % 128) by omega, byt_ob h8, cf_lt (by omega)]; rfl
    · rw [cell_apart _ _ _ (by rw [List.length_map]; omega), h.byte i hi]
      by_cases e2 : i < M.length / 8 % 128
      · rw [byt_left (ob vs) (by omega)]
      · rw [byt_big (L := M) (by omega), byt_big (L := M ++ ob vs) (by rw [List.length_append, ob_length]; omega)]
  · exact (byt_left (ob vs) (by omega)).symm
theorem st_from (R : List UInt8) (c : Nat) : (st R).extract c (st R).size = st (R.drop c) := by
  have := congrArg st (ls_part (st R) c (st R).size)
  rw [st_ls] at this
  rw [this, ls_st, st_size, List.take_of_length_le (by rw [List.length_drop]; exact Nat.le_refl _)]
theorem alen128 : Try.prog.arrayLen 84 = 128 := by kernel_rfl
theorem elem128 : Try.prog.elem 84 = 5 := by kernel_rfl
theorem under128 : Try.prog.underlying 84 = some (.array (Try.prog.arrayLen 84) (Try.prog.elem 84)) := by kernel_rfl
/-- A block's bytes from byte i on. -/
theorem slice128 (w : World) (b : Nat) {i : Nat} (hi : i < 128) : (Instr.sliceAt 84 (.pointer (some ⟨b, 1, none⟩)) (some (.int .i64 (i : Int))) none none).run Try.prog w = .ok (.slice (some ⟨b, 1 + i, none⟩) (128 - i) (128 - i)) w := by
  rw [run_sliceAt_array_l w 84 ⟨b, 1, none⟩ under128 .i64 (i : Int) (by omega) (by rw [alen128]; omega), elem128, size8]
  simp only [Result.andThen_ok, slicedAt, alen128, Int.toNat_natCast, Nat.mul_one, Addr.add_mid]
  rw [if_neg (by omega)]
theorem slice128a (w : World) (b : Nat) : (Instr.sliceAt 84 (.pointer (some ⟨b, 1, none⟩)) none none none).run Try.prog w = .ok (.slice (some ⟨b, 1, none⟩) 128 128) w := by
  rw [run_sliceAt_array_all w 84 ⟨b, 1, none⟩ under128, elem128, size8]
  simp only [Result.andThen_ok, slicedAt, alen128]
  rfl
def fiRel (w : World) (b : Nat) (L : List Bool) (l : List UInt8) (v : Value) (wr : World) : Prop := ∃ j : Nat, j ≤ l.length ∧ v = .string (st (l.drop j)) ∧ OutAt b (L ++ ob (l.take j)) wr ∧ Only b w wr
def sizeOfV : Value → Nat
  | .string s => s.size
  | _ => 0
set_option maxHeartbeats 8000000 in
theorem fill_any {b : Nat} {L : List Bool} {w : World} (h : OutAt b L w) (l : List UInt8) (h8 : L.length % 8 = 0) (hL : L.length + 8 * l.length ≤ 1000000) :
    Calls Try.prog 42 #[.pointer (some ⟨b, 0, none⟩), .string (st l)] w fun e w' => (∃ v, e = .returned v) ∧ OutAt b (L ++ ob l) w' ∧ Only b w w' := by
  have HH := Lib.hid h
  clear h
  go_enter Try.func42, Try.ntmps42
  go_wp2
  go_loopw [1] (fun v wr => fiRel w b L l v wr) (fun v _ => sizeOfV v)
  case atStart => exact ⟨0, by omega, by rw [List.drop_zero], by rw [List.take_zero]; show OutAt b (L ++ []) w; rw [List.append_nil]; exact HH.out, Only.refl _ _⟩
  case round =>
    obtain ⟨j, hj, rfl, hO, hon⟩ := hrel
    by_cases hlt : j < l.length
    · have hMl : (L ++ ob (l.take j)).length = L.length + 8 * j := by rw [List.length_append, ob_length, List.length_take]; omega
      have HTK := Lib.hid fun c : Nat => show (L ++ ob (l.take j)) ++ ob ((l.drop j).take c) = L ++ ob (l.take (j + c)) by rw [List.append_assoc, ← ob_append, List.take_add]
      have HRL := Lib.hid (show (l.drop j).length = l.length - j from List.length_drop ..)
      have HDD := Lib.hid fun c : Nat => show (l.drop j).drop c = l.drop (j + c) from List.drop_drop ..
      generalize L ++ ob (l.take j) = M at *
      generalize l.drop j = R at *
      obtain ⟨n, hn⟩ : ∃ n, M.length = n := ⟨_, rfl⟩
      have hn2 : n = L.length + 8 * j := by rw [← hn]; exact hMl
      obtain ⟨i, hi⟩ : ∃ i, n / 8 % 128 = i := ⟨_, rfl⟩
      obtain ⟨cnt, hcnt⟩ : ∃ cnt, Nat.min (st R).size (128 - i) = cnt := ⟨_, rfl⟩
      have hRl := HRL.out
      have hcnt2 : cnt ≤ R.length ∧ cnt ≤ 128 - i ∧ 0 < cnt := by
        rw [st_size] at hcnt
        have h1 : cnt ≤ R.length := by rw [← hcnt]; exact Nat.min_le_left _ _
        have h2 : cnt ≤ 128 - i := by rw [← hcnt]; exact Nat.min_le_right _ _
        have h3 : 0 < Nat.min R.length (128 - i) := Nat.lt_min.2 ⟨by omega, by omega⟩
        omega
      have hne : ((st R).toList == []) = false := by
        rw [st_toList]; cases R with
        | nil => simp at hRl; omega
        | cons _ _ => rfl
      have hRL : (R.take cnt).length = cnt := by rw [List.length_take]; omega
      obtain ⟨hP, hT⟩ := put_bytes hO (by omega) (R.take cnt) (by rw [hRL, hn, hi]; omega)
      rw [hn, hi] at hP hT
      rw [hRL] at hT
      have hcn := OutR.cnt hO
      rw [hn] at hcn
      have HP := Lib.hid hP
      have HT := Lib.hid hT
      have HON := Lib.hid hon
      obtain ⟨q, hq⟩ : ∃ q, n / 8 = q := ⟨_, rfl⟩
      have hnb : n ≤ 1000000 := by omega
      have hi128 : i < 128 := by omega
      have e1 : IntKind.i64.wrap ((n : Int) / 8) = (q : Int) := by rw [wrap64 (by omega)]; omega
      have e2 : (q : Int).tmod 128 = (i : Int) := by rw [Int.tmod_eq_emod_of_nonneg (by omega)]; omega
      have hiI : (i : Int) < 128 := by omega
      obtain ⟨wc, hwc⟩ : ∃ wc, wr.setCells b (1 + i) ((R.take cnt).map B) = wc := ⟨_, rfl⟩
      have HWC := Lib.hid hwc
      have HN2 := Lib.hid hn2
      have HN := Lib.hid hn
      clear hO hP hT hon hMl hwc hn2 hn
      go_wp2
      refine wp_draw (by kernel_rfl)
        [.pointer (some ⟨b, 0, none⟩), .pointer (some ⟨b, 0, none⟩), .pointer (some ⟨b, 0, none⟩), .pointer (some ⟨b, 1, none⟩), .pointer (some ⟨b, 0, none⟩), .pointer (some ⟨b, 0, none⟩), .pointer (some ⟨b, 129, none⟩), .int .i64 (n : Int), .int .i64 (q : Int), .int .i64 (i : Int), .slice (some ⟨b, 1 + i, none⟩) (128 - i) (128 - i), .string (st R), .int .i64 (cnt : Int), .int .i64 (cnt : Int)]
        (Once 12 (Eqv wr) (Eqv wc))
        rfl (by kernel_rfl) (fin := ?fin) ?hfin (Once.start (Eqv.drew wr)) ?each ?hend
      case hfin => simp [seqA, dstOf, Act.put]; rfl
      case each =>
        refine ⟨?_, ?_, ?_, ?_, ?_, ?_, ?_, ?_, ?_, ?_, ?_, ?_, ?_, ?_, trivial⟩
        all_goals intro L7 w7 h0 hd hs hw
        all_goals try simp only [Nat.zero_add, Nat.reduceAdd] at h0
        all_goals try (unfold Does; go_simp; exact fun L' k => hw.same (by decide) k)
        · have hc := ((hw.1 (hs.no (j := 12) (by kernel_rfl) (hs.no (j := 10) (by kernel_rfl) (hs.no (j := 9) (by kernel_rfl) (hs.no (j := 8) (by kernel_rfl) h0))))).cell _).trans hcn
          unfold Does
          go_simp; exact fun L' k => hw.same (by decide) k
        · have hsl := slice128 w7 b hi128
          unfold Does
          go_simp
          exact fun L' k => hw.same (by decide) k
        · have hA := hw.1 h0
          refine Does.copy _ _ _ rfl rfl rfl rfl (copy_str hcnt (fun j hj => ⟨by rw [hA.cell]; exact (HT.out j hj).1, by rw [hA.frozen]; exact (HT.out j hj).2⟩) _) ?_
          refine ⟨fun _ => rfl, fun L' k => Once.done k ?_⟩
          rw [← HWC.out, ls_st]
          exact hA.setCells b _ _
      case hend =>
        intro L7 w7 hL7 hw
        have hC := hw.2 (hL7 12 (by simp))
        rw [← HWC.out] at hC
        have hO7 := HP.out.eqv hC
        have HK7 := Lib.hid (show Only b wr w7 from (only_setCells b _ _ wr).trans (Only.eqv hC))
        have hn2 := HN2.out
        have hML : (M ++ ob (R.take cnt)).length = n + 8 * cnt := by rw [List.length_append, ob_length, hRL, HN.out]
        have HS := Lib.hid (step_any hO7 (8 * cnt) (by omega) (by omega) (by omega) (byt_past (by rw [hML]; exact Nat.le_refl _)))
        have hc8 : ((8 * cnt : Nat) : Int) = 8 * (cnt : Int) := by omega
        rw [hc8] at HS
        have hcI : (cnt : Int) ≤ ((st R).size : Int) := by rw [st_size]; omega
        have hsz : (st R).size ≤ 1000000 := by rw [st_size]; omega
        have HSF := Lib.hid (st_from R cnt)
        clear hw hL7 hC hO7 hn2 hcn
        go_wp2_with (go_at_call 50; refine HS.out.mono ?_; rintro x0 w9 ⟨⟨u, rfl⟩, hO9, k9⟩)
        go_roundw
        case rel =>
          rw [HSF.out]
          refine ⟨j + cnt, by omega, by rw [HDD.out], ?_, (HON.out.trans HK7.out).trans k9⟩
          rw [← HTK.out cnt]
          unfold OutAt
          rw [hML]; exact hO9
        case measure =>
          rw [HSF.out]
          show (st (R.drop cnt)).size < (st R).size
          rw [st_size, st_size, List.length_drop]; omega
    · have hd : l.drop j = [] := List.drop_of_length_le (by omega)
      have ht : l.take j = l := List.take_of_length_le (by omega)
      rw [hd]
      rw [ht] at hO
      have hne : ((st []).toList == []) = true := by rw [st_toList]; rfl
      go_wp2
      go_end0
      exact ⟨⟨_, rfl⟩, hO, hon⟩
theorem ob_one (a : UInt8) : ob [a] = lb a.toNat 8 := by show lb a.toNat 8 ++ [] = _; rw [List.append_nil]
theorem ob_take_succ {s : List UInt8} {k : Nat} (h : k < s.length) : ob (s.take (k + 1)) = ob (s.take k) ++ lb (cf s k).toNat 8 := by
  rw [List.take_succ_eq_append_getElem h, ob_append, ob_one, cf_lt h]
theorem flat_take_succ {l : List (List UInt8)} {k : Nat} (h : k < l.length) : (l.take (k + 1)).flatten = (l.take k).flatten ++ l.getD k [] := by
  rw [List.take_succ_eq_append_getElem h, List.flatten_append, List.getD_eq_getElem?_getD, List.getElem?_eq_getElem h]; simp
theorem flat_take_le (l : List (List UInt8)) (k : Nat) : (l.take k).flatten.length ≤ l.flatten.length := by
  have : l.flatten = (l.take k).flatten ++ (l.drop k).flatten := by rw [← List.flatten_append, List.take_append_drop]
  rw [this, List.length_append]; omega
def otRel (w : World) (b : Nat) (L : List Bool) (l : List (List UInt8)) (i : Value) (wr : World) : Prop := ∃ k : Nat, k ≤ l.length ∧ i = .int .i64 (k : Int) ∧ OutAt b (L ++ ob (l.take k).flatten) wr ∧ Only b w wr
def oiRel (w : World) (b : Nat) (M : List Bool) (s : List UInt8) (i : Value) (wr : World) : Prop := ∃ k : Nat, k ≤ s.length ∧ i = .int .i64 (k : Int) ∧ OutAt b (M ++ ob (s.take k)) wr ∧ Only b w wr
set_option maxHeartbeats 8000000 in
theorem otext_any {b : Nat} {L : List Bool} {w : World} (h : OutAt b L w) {a : Option Addr} {len cap : Nat} (l : List (List UInt8)) (hT : IsT w a len l) (hne : ∀ x, a = some x → x.block ≠ b) (hlen : len ≤ 1000000) (hL : L.length + 8 * l.flatten.length ≤ 1000000) :
    Calls Try.prog 32 #[.pointer (some ⟨b, 0, none⟩), .slice a len cap] w fun e w' => (∃ v, e = .returned v) ∧ OutAt b (L ++ ob l.flatten) w' ∧ Only b w w' := by
  have HH := Lib.hid h
  have HT := Lib.hid hT
  obtain ⟨N, hN⟩ : ∃ N, l.length = N := ⟨_, rfl⟩
  have hll : len = N := by rw [← hN]; exact hT.1
  subst hll
  have HLL := Lib.hid hN
  clear h hT
  go_enter Try.func32, Try.ntmps32
  go_wp2
  go_loopw [11] (fun i wr => otRel w b L l i wr) (fun i _ => len - (intOf i).toNat)
  case atStart => exact ⟨0, by omega, rfl, by show OutAt b (L ++ []) w; rw [List.append_nil]; exact HH.out, Only.refl _ _⟩
  case round =>
    obtain ⟨k, hk, rfl, hO, hon⟩ := hrel
    rw [hN] at hk
    clear hN
    by_cases hltN : k < len
    · have hlt : k < l.length := by rw [HLL.out]; exact hltN
      obtain ⟨tb, off, rfl, htb, hcs⟩ := HT.out.2 (by rw [HLL.out]; omega)
      have hnb := hne _ rfl
      have hck := (hon.cell (p := ⟨tb, off + k, none⟩) htb hnb).trans (hcs k hlt)
      have hkI : (k : Int) < (len : Int) := by omega
      have HFL := Lib.hid (show L ++ ob (l.take (k + 1)).flatten = (L ++ ob (l.take k).flatten) ++ ob (l.getD k []) by rw [flat_take_succ hlt, ob_append, List.append_assoc])
      have hle := flat_take_le l (k + 1)
      rw [flat_take_succ hlt, List.length_append] at hle
      have hMl : (L ++ ob (l.take k).flatten).length = L.length + 8 * (l.take k).flatten.length := by rw [List.length_append, ob_length]
      generalize L ++ ob (l.take k).flatten = M at *
      generalize (l.take k).flatten.length = c at *
      generalize l.getD k [] = s at *
      have hcn := OutR.cnt hO
      have hMs : M.length + 8 * s.length ≤ 1000000 := by omega
      have hss : (st s).size ≤ 1000000 := by rw [st_size]; omega
      have HON := Lib.hid hon
      have HOO := Lib.hid hO
      clear hcs hle hon hO hne hlt
      obtain ⟨n, hn⟩ : ∃ n, M.length = n := ⟨_, rfl⟩
      have HN := Lib.hid hn
      rw [hn] at hcn hMs hMl
      clear hMl hn
      by_cases h8 : n % 8 = 0
      · have e1 : (n : Int) % 8 = 0 := by omega
        have HF := Lib.hid (fill_any HOO.out s (by rw [HN.out]; exact h8) (by rw [HN.out]; exact hMs))
        go_wp2_with (go_at_call 42; refine HF.out.mono ?_; rintro x0 w9 ⟨⟨u, rfl⟩, hO9, k9⟩)
        go_roundw
        case rel => exact ⟨k + 1, by rw [HLL.out]; omega, by go_num, by rw [HFL.out]; exact hO9, HON.out.trans k9⟩
        case measure => simp [intOf]; omega
      · have e1 : ¬ ((n : Int) % 8 = 0) := by omega
        go_wp2
        go_loopw [26] (fun i wr => oiRel w b M s i wr) (fun i _ => (st s).size - (intOf i).toNat)
        case atStart => exact ⟨0, by omega, rfl, by show OutAt b (M ++ []) _; rw [List.append_nil]; exact HOO.out, HON.out⟩
        case round =>
          obtain ⟨m, hm, rfl, hO2, hon2⟩ := hrel
          by_cases hms : m < s.length
          · have hmI : (m : Int) < ((st s).size : Int) := by rw [st_size]; omega
            have hgm : (st s)[m]'(by rw [st_size]; exact hms) = cf s m := by rw [ls_get, ls_st]
            have hy := u8_bd (cf s m)
            have HTS := Lib.hid (ob_take_succ hms)
            have HW := Lib.hid (write_any hO2 (cf s m).toNat 8 (Nat.lt_of_lt_of_le (cf s m).toNat_lt (by decide)) (by omega) (by rw [List.length_append, ob_length, List.length_take, HN.out]; omega))
            have HON2 := Lib.hid hon2
            clear hO2 hon2
            go_wp2_with (go_at_call 41; (try rw [hgm]); refine HW.out.mono ?_; rintro x0 w9 ⟨⟨u, rfl⟩, hO9, k9⟩)
            go_roundw
            case rel => exact ⟨m + 1, by omega, by go_num, by rw [HTS.out, ← List.append_assoc]; exact hO9, HON2.out.trans k9⟩
            case measure => rw [st_size]; simp [intOf]; omega
          · have hm2 : ¬ ((m : Int) < ((st s).size : Int)) := by rw [st_size]; omega
            have ht : s.take m = s := List.take_of_length_le (by omega)
            rw [ht] at hO2
            go_wp2
            go_roundw
            case rel => exact ⟨k + 1, by rw [HLL.out]; omega, by go_num, by rw [HFL.out]; exact hO2, hon2⟩
            case measure => simp [intOf]; omega
    · have ht : l.take k = l := List.take_of_length_le (by rw [HLL.out]; omega)
      rw [ht] at hO
      have hk2 : ¬ ((k : Int) < (len : Int)) := by omega
      go_wp2
      go_end0
      exact ⟨⟨_, rfl⟩, hO, hon⟩
end Go.Proofs.Ytebfihghfkcicaa
namespace Go.Proofs.Ytebfihghfkcicaa
open Go.RowKit Go.Shelf Gf Bit
set_option maxRecDepth 100000
/-- Blocks, one ahead of the other: as Chain, whichever they are. -/
def Chn (w : World) (f : Nat → UInt8) : Nat → Value → Prop
  | 0, v => v = .pointer none
  | m + 1, v => ∃ c u, v = .pointer (some ⟨c, 0, none⟩) ∧ w.cell? ⟨c, 0, none⟩ = some u ∧ (∀ k, k < 128 → w.cell? ⟨c, 1 + k, none⟩ = some (B (f (128 * m + k)))) ∧ Chn w f m u
theorem Chain.chn {w : World} {b : Nat} {f : Nat → UInt8} : ∀ {m : Nat} {v : Value}, Chain w b f m v → Chn w f m v
  | 0, _, h => h
  | m + 1, _, h => by
    obtain ⟨c, u, e, _, h0, hb, hr⟩ := h
    exact ⟨c, u, e, h0, hb, hr.chn⟩
theorem OutR.chn {w : World} {b : Nat} {f : Nat → UInt8} {n : Nat} (h : OutR b f n w) : Chn w f (n / 1024 + 1) (.pointer (some ⟨b, 0, none⟩)) := by
  obtain ⟨v, h1, h2⟩ := h.chain
  exact ⟨b, v, rfl, h1, h.byte, h2.chn⟩
/-- The bytes from k on, bytes 0 ahead of them. -/
def rmix (R : List UInt8) (k : Nat) : List UInt8 := (List.range R.length).map fun i => if i < k then 0 else cf R i
theorem rmix_length (R : List UInt8) (k : Nat) : (rmix R k).length = R.length := by unfold rmix; rw [List.length_map, List.length_range]
theorem cf_rmix {R : List UInt8} {k i : Nat} (h : i < R.length) : cf (rmix R k) i = if i < k then 0 else cf R i := by
  rw [cf_lt (by rw [rmix_length]; exact h)]; unfold rmix; rw [List.getElem_map, List.getElem_range]
theorem rmix_all (R : List UInt8) {k : Nat} (h : R.length ≤ k) : rmix R k = z8 R.length := by
  refine list_ext_cf (by rw [rmix_length]; exact List.length_replicate.symm) fun i hi => ?_
  rw [rmix_length] at hi
  rw [cf_rmix hi, if_pos (by omega), cf_lt (by unfold z8; rw [List.length_replicate]; exact hi)]; unfold z8; rw [List.getElem_replicate]
theorem rmix_none (R : List UInt8) : rmix R 0 = R := list_ext_cf (rmix_length R 0) fun i hi => by rw [rmix_length] at hi; rw [cf_rmix hi, if_neg (by omega)]
theorem cf_part (R : List UInt8) (t c j : Nat) (h : j < c) : cf ((R.drop t).take c) j = cf R (t + j) := by
  unfold cf
  rw [List.getD_eq_getElem?_getD, List.getElem?_take_of_lt h, List.getElem?_drop, List.getD_eq_getElem?_getD]
theorem min_or (a b : Nat) : Nat.min a b = a ∨ Nat.min a b = b := by
  rcases Nat.le_total a b with h | h
  · exact .inl (Nat.min_eq_left h)
  · exact .inr (Nat.min_eq_right h)
/-- The state ahead of block j - 1, of which j are left. -/
def stRel (w : World) (g : Nat) (L : List Bool) (a v : Value) (wr : World) : Prop := ∃ j : Nat, 128 * j ≤ (pack L).length + 128 ∧ a = .int .i64 (128 * (j : Int) - 128) ∧ Chn w (byt L) j v ∧ Blk g (rmix (pack L) (128 * j)) wr ∧ Keeps w wr
def chSize : Value → Int → Nat := fun _ a => (a + 128).toNat
set_option maxHeartbeats 8000000 in
theorem string_any {b : Nat} {L : List Bool} {w : World} (h : OutAt b L w) (hL : L.length ≤ 1000000) :
    Calls Try.prog 34 #[.pointer (some ⟨b, 0, none⟩)] w fun e w' => e = .returned (.string (st (pack L))) ∧ Keeps w w' := by
  have hcn := OutR.cnt h
  have HC := Lib.hid (OutR.chn h)
  clear h
  have hPl := pack_length L
  obtain ⟨N, hN⟩ : ∃ N, (pack L).length = N := ⟨_, rfl⟩
  rw [hN] at hPl
  have hN1 : N ≤ 1000000 := by omega
  have hmk := make8 N hN1 w
  have e1 : ((L.length : Int) + 7) / 8 = (N : Int) := by omega
  have hB := Blk.make w N
  have hA := Keeps.alloc (Keeps.refl w) (.cells (zr N) 5)
  rw [show z8 N = rmix (pack L) (128 * (L.length / 1024 + 1)) by rw [rmix_all _ (by rw [hN]; omega), hN]] at hB
  obtain ⟨n, hn⟩ : ∃ n, L.length = n := ⟨_, rfl⟩
  rw [hn] at hcn HC hPl e1 hB hL
  have HNN := Lib.hid hn
  have HNL := Lib.hid hN
  clear hn hN
  obtain ⟨g, hg⟩ : ∃ g, w.heap.size = g := ⟨_, rfl⟩
  have hcn8 := Below.cell hA (p := ⟨b, 129, none⟩) (there_cell hcn) |>.trans hcn
  obtain ⟨w8, hw8⟩ : ∃ w8, w.alloc (.cells (zr N) 5) = w8 := ⟨_, rfl⟩
  rw [hg, hw8] at hmk
  rw [hg, hw8] at hB
  rw [hw8] at hA hcn8
  have HPL := Lib.hid hPl
  have e3 : (n : Int) / 1024 * 128 = 128 * ((n / 1024 + 1 : Nat) : Int) - 128 := by omega
  have e4 : 128 * (n / 1024 + 1) ≤ N + 128 := by omega
  clear hw8 hPl
  go_enter Try.func34, Try.ntmps34
  go_wp2
  go_loopw [4, 5] (fun a v wr => stRel w g L a v wr) (fun a v _ => (intOf a + 128).toNat)
  case atStart => exact ⟨n / 1024 + 1, by rw [HNL.out]; exact e4, by congr 1, HC.out, hB, hA⟩
  case round =>
    obtain ⟨j, hj, rfl, hc, hbk, hkp⟩ := hrel
    rw [HNL.out] at hj
    have HCH := Lib.hid hc
    have HBK := Lib.hid hbk
    have HKP := Lib.hid hkp
    clear hB hA hcn8 hmk hcn e1 e3 e4
    cases j with
    | zero =>
      have hv : _ = _ := hc
      subst hv
      have hw := hbk.whole N (n := N) (by rw [rmix_length]; exact HNL.out.symm)
      rw [Nat.mul_zero, rmix_none] at hw
      go_wp2
      go_ret
      exact ⟨rfl, HKP.out⟩
    | succ m =>
      obtain ⟨c, u, rfl, hu, hcb, hch⟩ := hc
      have HHC := Lib.hid hch
      have HCB := Lib.hid hcb
      clear hbk hkp hcb hch
      have ea : 128 * ((m + 1 : Nat) : Int) - 128 = ((128 * m : Nat) : Int) := by omega
      rw [ea]
      obtain ⟨t, ht⟩ : ∃ t, 128 * m = t := ⟨_, rfl⟩
      have htN : t ≤ N := by omega
      obtain ⟨l, hl⟩ : ∃ l, ((pack L).drop t).take 128 = l := ⟨_, rfl⟩
      have hll : l.length = Nat.min 128 (N - t) := by rw [← hl, List.length_take, List.length_drop, HNL.out]
      have hmin : l.length = 128 ∨ l.length = N - t := by rw [hll]; exact min_or _ _
      have hl128 : l.length ≤ 128 := by rw [hll]; exact Nat.min_le_left _ _
      have hlN : l.length ≤ N - t := by rw [hll]; exact Nat.min_le_right _ _
      have hcw : c < w.heap.size := there_cell hu
      have HSRC := Lib.hid (show ∀ i, i < l.length → wr.cell? ⟨c, 1 + i, none⟩ = some (B (cf l i)) from fun i hi => by
        rw [Below.cell HKP.out (p := ⟨c, 1 + i, none⟩) hcw, HCB.out i (by omega), ← hl, cf_part _ _ _ _ (by omega), cf_pack, ht])
      have HNB0 := Lib.hid (HBK.out.put t l (rmix (pack L) (128 * m)) (by rw [rmix_length, HNL.out]; omega) (by rw [rmix_length, rmix_length]) (fun i hi => by
        rw [rmix_length] at hi
        rw [cf_rmix hi, cf_rmix hi, ht]
        rw [HNL.out] at hi
        by_cases h1 : i < t
        · rw [if_pos h1, if_neg (by omega), if_pos (by omega)]
        · rw [if_neg h1]
          by_cases h2 : i < t + l.length
          · rw [if_pos ⟨by omega, h2⟩, ← hl, cf_part _ _ _ _ (by omega), show t + (i - t) = i by omega]
          · rw [if_neg (by omega), if_neg (by omega)]))
      have HLEN := Lib.hid hll
      have HTT := Lib.hid ht
      clear ea hl hll hmin
      rw [ht]
      by_cases hlt : t < N
      · obtain ⟨wc, hwc⟩ : ∃ wc, wr.setCells g t (l.map B) = wc := ⟨_, rfl⟩
        have HWC := Lib.hid hwc
        have HDST := Lib.hid (show wr.there g t l.length from fun i hi => ⟨by rw [HBK.out.cell (t + i) (by rw [rmix_length, HNL.out]; omega)]; rfl, HBK.out.free (t + i) (by rw [rmix_length, HNL.out]; omega)⟩)
        have HNB := Lib.hid (show Blk g (rmix (pack L) (128 * m)) wc by rw [← hwc]; exact HNB0.out)
        have HKW := Lib.hid (show Keeps w wc by rw [← hwc]; exact (only_setCells g _ t wr).keeps HKP.out (by omega))
        have htI : (t : Int) < (N : Int) := by omega
        clear hwc
        go_wp2
        refine wp_draw (by kernel_rfl)
          [.slice (some ⟨g, 0, none⟩) N N, .int .i64 (t : Int), .slice (some ⟨g, t, none⟩) (N - t) (N - t), .pointer (some ⟨c, 0, none⟩), .pointer (some ⟨c, 0, none⟩), .pointer (some ⟨c, 1, none⟩), .slice (some ⟨c, 1, none⟩) 128 128, .int .i64 (l.length : Int)]
          (Once 7 (Eqv wr) (Eqv wc))
          rfl (by kernel_rfl) (fin := ?finP) ?hfinP (Once.start (Eqv.drew wr)) ?eachP ?hendP
        case hfinP => simp [seqA, dstOf, Act.put]; rfl
        case eachP =>
          refine ⟨?_, ?_, ?_, ?_, ?_, ?_, ?_, ?_, trivial⟩
          all_goals intro L7 w7 h0 hd hs hw
          all_goals try simp only [Nat.zero_add, Nat.reduceAdd] at h0
          all_goals try (have hsa := slice128a w7 c; unfold Does; go_simp; exact fun L' k => hw.same (by decide) k)
          · unfold Does
            go_simp
            exact ⟨fun e => absurd e (by omega), fun L' k => hw.same (by decide) k⟩
          · have hA := hw.1 h0
            refine Does.copy _ _ _ rfl rfl rfl rfl (copy_row (l := l) HLEN.out (fun i hi => by rw [hA.cell]; exact HSRC.out i hi) (fun i hi => ⟨by rw [hA.cell]; exact (HDST.out i hi).1, by rw [hA.frozen]; exact (HDST.out i hi).2⟩) _) ?_
            refine ⟨fun _ => rfl, fun L' k => Once.done k ?_⟩
            rw [← HWC.out]
            exact hA.setCells g _ _
        case hendP =>
          intro L7 w7 hL7 hw
          have hC := hw.2 (hL7 7 (by simp))
          have HB7 := Lib.hid (HNB.out.eqv hC)
          have HK7 := Lib.hid (HKW.out.eqv hC)
          have hu7 := (HKW.out.cell (p := ⟨c, 0, none⟩) hcw).trans hu
          have hu8 := (hC.cell _).trans hu7
          clear hw hL7 hC hu hu7
          have htI : (t : Int) ≤ 1000000 := by omega
          go_wp2
          go_roundw
          case rel => exact ⟨m, by rw [HNL.out]; omega, by congr 1; omega, HHC.out, HB7.out, HK7.out⟩
          case measure => simp [intOf]; omega
      · obtain rfl : t = N := by omega
        have hl0 : l = [] := List.length_eq_zero_iff.1 (by omega)
        obtain ⟨wc, hwc⟩ : ∃ wc, wr.setCells g 0 (l.map B) = wc := ⟨_, rfl⟩
        have hwc2 : wc = wr := by rw [← hwc, hl0]; rfl
        have HWC := Lib.hid hwc
        have HDST := Lib.hid (show wr.there g 0 l.length from fun i hi => by rw [hl0] at hi; simp at hi)
        have HNB := Lib.hid (show Blk g (rmix (pack L) (128 * m)) wc by have := HNB0.out; rw [hl0] at this; rw [hwc2]; exact this)
        have HKW := Lib.hid (show Keeps w wc by rw [hwc2]; exact HKP.out)
        have HLEN0 := Lib.hid (show l.length = Nat.min 128 0 by rw [hl0]; rfl)
        clear hwc hwc2 hl0
        go_wp2
        refine wp_draw (by kernel_rfl)
          [.slice (some ⟨g, 0, none⟩) t t, .int .i64 (t : Int), .slice (some ⟨g, 0, none⟩) 0 0, .pointer (some ⟨c, 0, none⟩), .pointer (some ⟨c, 0, none⟩), .pointer (some ⟨c, 1, none⟩), .slice (some ⟨c, 1, none⟩) 128 128, .int .i64 (l.length : Int)]
          (Once 7 (Eqv wr) (Eqv wc))
          rfl (by kernel_rfl) (fin := ?finZ) ?hfinZ (Once.start (Eqv.drew wr)) ?eachZ ?hendZ
        case hfinZ => simp [seqA, dstOf, Act.put]; rfl
        case eachZ =>
          refine ⟨?_, ?_, ?_, ?_, ?_, ?_, ?_, ?_, trivial⟩
          all_goals intro L7 w7 h0 hd hs hw
          all_goals try simp only [Nat.zero_add, Nat.reduceAdd] at h0
          all_goals try (have hsa := slice128a w7 c; unfold Does; go_simp; exact fun L' k => hw.same (by decide) k)
          · have hA := hw.1 h0
            refine Does.copy _ _ _ rfl rfl rfl rfl (copy_row (l := l) HLEN0.out (fun i hi => by rw [hA.cell]; exact HSRC.out i hi) (fun i hi => ⟨by rw [hA.cell]; exact (HDST.out i hi).1, by rw [hA.frozen]; exact (HDST.out i hi).2⟩) _) ?_
            refine ⟨fun _ => rfl, fun L' k => Once.done k ?_⟩
            rw [← HWC.out]
            exact hA.setCells g _ _
        case hendZ =>
          intro L7 w7 hL7 hw
          have hC := hw.2 (hL7 7 (by simp))
          have HB7 := Lib.hid (HNB.out.eqv hC)
          have HK7 := Lib.hid (HKW.out.eqv hC)
          have hu7 := (HKW.out.cell (p := ⟨c, 0, none⟩) hcw).trans hu
          have hu8 := (hC.cell _).trans hu7
          clear hw hL7 hC hu hu7
          have htI : (t : Int) ≤ 1000000 := by omega
          go_wp2
          go_roundw
          case rel => exact ⟨m, by rw [HNL.out]; omega, by congr 1; omega, HHC.out, HB7.out, HK7.out⟩
          case measure => simp [intOf]; omega
end Go.Proofs.Ytebfihghfkcicaa
namespace Go.Proofs.Ytebfihghfkcicaa
open Go.RowKit Go.Shelf Gf Bit
set_option maxRecDepth 100000
def zout : Array Value := #[.pointer none] ++ Array.replicate 128 (.int .u8 0) ++ #[.int .i64 0]
theorem infoOut : (Try.prog.info? 88).map (·.zero) = some (some (.agg zout)) := by kernel_rfl
theorem zout_get {i : Nat} (h : i < 128) : zout[1 + i]? = some (.int .u8 0) := by
  unfold zout
  rw [Array.getElem?_append_left (by simp; omega), Array.getElem?_append_right (by simp)]
  simp [h]
theorem out_zero (w : World) : OutAt w.heap.size [] (w.alloc (.cells zout 88)) := by
  refine ⟨?_, fun k hk => ?_, fun k _ => World.frozen?_alloc_new _ _ _ _, .pointer none, ?_, rfl⟩
  · rw [World.cell?_alloc_new]; rfl
  · rw [World.cell?_alloc_new, zout_get hk]; rfl
  · rw [World.cell?_alloc_new]; rfl
theorem Only.kept {c : Nat} {w0 w w' : World} (k : Only c w w') (h : Keeps w0 w) (hc : w0.heap.size ≤ c) : Keeps w0 w' := k.keeps h hc
theorem Keeps.size {w w' : World} (h : Keeps w w') : w.heap.size ≤ w'.heap.size := Below.size h
theorem Keeps.more {w0 w w' : World} (h : Keeps w0 w) (k : Keeps w w') : Keeps w0 w' := h.trans k
theorem un_of {x : Int} (h : 0 ≤ x ∧ x ≤ 18446744073709551615) : ∃ y : Nat, y < 2 ^ 64 ∧ x = un y := ⟨x.toNat, by omega, by unfold un; omega⟩
/-- Text of one string, as a call lays its row. -/
theorem otext_one {b : Nat} {L : List Bool} {W : World} (h : OutAt b L W) (s : ByteArray) (hL : L.length + 8 * s.size ≤ 1000000) :
    Calls Try.prog 32 #[.pointer (some ⟨b, 0, none⟩), .slice (some ⟨W.heap.size, 0, none⟩) 1 1] (W.alloc (.cells #[.string s] 9)) fun e w' => (∃ v, e = .returned v) ∧ OutAt b (L ++ ob (ls s)) w' ∧ Only b W w' := by
  have hb := OutR.old h
  have hk := Keeps.alloc (Keeps.refl W) (.cells #[.string s] 9)
  have := otext_any (cap := 1) (OutR.keeps h hk) [ls s] (IsT.one W s 9) (fun x e => by cases e; show W.heap.size ≠ b; omega) (by omega) (by rw [List.flatten_cons, List.flatten_nil, List.append_nil, ← ls_size]; exact hL)
  rw [List.flatten_cons, List.flatten_nil, List.append_nil] at this
  exact this.mono fun e w' hh => ⟨hh.1, hh.2.1, (Only.below hk).trans hh.2.2⟩
end Go.Proofs.Ytebfihghfkcicaa
