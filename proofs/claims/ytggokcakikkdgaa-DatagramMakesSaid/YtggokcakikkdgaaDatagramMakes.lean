/-
  For any two strings, any number and any body DatagramMakes returns true: which datagram is made, or why none, and that it is one whose beginning tells how; nothing that was there is changed. No condition.
-/
import Derived.Test.YtggokcakikkdgaaRows
import Derived.Test.YtggokcakikkdgaaDgArgs
import Derived.Test.YtggokcakikkdgaaDgMade
import Derived.Deep.MidRow
namespace Go.Proofs.Ytggokcakikkdgaa.datagramMakes
open Go.ChangeShapes Go.WideShapes Go.ChangeAt Go.RowKit Gf Dg
set_option maxRecDepth 100000
open Go.ChangeMaps (open_string shut_string)
set_option linter.unusedVariables false
set_option maxHeartbeats 1600000 in
theorem off (s t : ByteArray) (p : Int) (b : ByteArray) (six : Bool) (w : World) (h : ¬ b.size ≤ 4200) :
    Calls Try.prog 5 #[.agg #[.string s, .string t], .int .i64 p, .agg #[.string b, .bool six]] w fun e w' => e = .returned (.bool true) ∧ Below w.heap.size w w' := by
  go_enter Try.func5, Try.ntmps5
  go_wp2_with fail
  refine (awake7_any w _ (((Keeps.refl w).alloc _).alloc _)).mono ?_
  rintro e w1 ⟨rfl, hk1⟩
  go_wp2
  go_ret
  exact ⟨rfl, hk1⟩
/-- The first k bytes of a text, and bytes 0. -/
def fill (n : Nat) (l : List UInt8) (k : Nat) : List UInt8 := (List.range n).map fun i => if i < k then cf l i else 0
theorem fill_length (n : Nat) (l : List UInt8) (k : Nat) : (fill n l k).length = n := by simp [fill]
theorem cf_fill (n : Nat) (l : List UInt8) (k i : Nat) (h : i < n) : cf (fill n l k) i = if i < k then cf l i else 0 := by
  rw [cf_lt (by rw [fill_length]; exact h)]; simp [fill]
theorem fill_zero (n : Nat) (l : List UInt8) : fill n l 0 = z8 n := list_ext_cf (by rw [fill_length, z8, List.length_replicate]) fun i hi => by
  rw [fill_length] at hi
  rw [cf_fill n l 0 i hi, if_neg (by omega), cf_lt (by rw [z8, List.length_replicate]; exact hi)]; unfold z8; rw [List.getElem_replicate]
theorem fill_next (n : Nat) (l : List UInt8) {k : Nat} (h : k < n) : (fill n l k).set k (cf l k) = fill n l (k + 1) := list_ext_cf (by rw [List.length_set, fill_length, fill_length]) fun i hi => by
  rw [List.length_set, fill_length] at hi
  rw [cf_set _ _ _ (by rw [fill_length]; exact h), cf_fill n l k i hi, cf_fill n l (k + 1) i hi]
  by_cases e : i = k
  · subst e; rw [if_pos rfl, if_pos (by omega)]
  · rw [if_neg e]
    by_cases e2 : i < k
    · rw [if_pos e2, if_pos (by omega)]
    · rw [if_neg e2, if_neg (by omega)]
theorem fill_skip (n : Nat) (l : List UInt8) {k : Nat} (h : l.length ≤ k) : fill n l (k + 1) = fill n l k := list_ext_cf (by rw [fill_length, fill_length]) fun i hi => by
  rw [fill_length] at hi
  rw [cf_fill n l k i hi, cf_fill n l (k + 1) i hi]
  by_cases e : i < k
  · rw [if_pos e, if_pos (by omega)]
  · by_cases e2 : i = k
    · subst e2; rw [if_pos (by omega), if_neg (by omega), cf_big h]
    · rw [if_neg e, if_neg (by omega)]
/-- Two rows of bytes, of the first k bytes of two texts. -/
structure FilR (w2 : World) (ba bb n : Nat) (s t : List UInt8) (k : Nat) (W : World) : Prop where
  kp : Keeps w2 W
  a : Blk ba (fill n s k) W
  b : Blk bb (fill n t k) W
def filRel (w2 : World) (ba bb n : Nat) (s t : List UInt8) (i : Value) (wr : World) : Prop := ∃ k : Nat, k ≤ n ∧ i = .int .i64 (k : Int) ∧ FilR w2 ba bb n s t k wr
theorem FilR.start (w2 : World) (s t : List UInt8) (n : Nat) (zs : Array Value) (hz : ((z8 n).map B).toArray = zs) (ty : TypeId) {ba bb : Nat} (ha : w2.heap.size = ba) (hb : ba + 1 = bb) : FilR w2 ba bb n s t 0 ((w2.alloc (.cells zs ty)).alloc (.cells zs ty)) := by
  subst ha; subst hb; subst hz
  refine ⟨((Keeps.refl w2).alloc _).alloc _, ?_, ?_⟩
  · rw [fill_zero]; exact (Blk.lit w2 (z8 n) ty).below ((Keeps.refl _).alloc _)
  · rw [fill_zero]
    have := Blk.lit (w2.alloc (.cells ((z8 n).map B).toArray ty)) (z8 n) ty
    rwa [World.size_alloc] at this
/-- Both bytes of place k stored; or one of them left alone, where its text has no more. -/
theorem FilR.both {w2 W : World} {ba bb n : Nat} {s t : List UInt8} {k : Nat} (h : FilR w2 ba bb n s t k W) (hk : k < n) (hab : ba ≠ bb) (hA : w2.heap.size ≤ ba) (hB : w2.heap.size ≤ bb) :
    FilR w2 ba bb n s t (k + 1) ((W.setCell ⟨ba, k, none⟩ (.int .u8 ((cf s k).toNat : Int))).setCell ⟨bb, k, none⟩ (.int .u8 ((cf t k).toNat : Int))) := by
  have o1 := Only.setCell W ⟨ba, k, none⟩ (.int .u8 ((cf s k).toNat : Int))
  have o2 := Only.setCell (W.setCell ⟨ba, k, none⟩ (.int .u8 ((cf s k).toNat : Int))) ⟨bb, k, none⟩ (.int .u8 ((cf t k).toNat : Int))
  refine ⟨o2.keeps (o1.keeps h.kp hA) hB, ?_, ?_⟩
  · rw [← fill_next n s hk]; exact (h.a.set (by rw [fill_length]; exact hk) _).only hab o2
  · rw [← fill_next n t hk]; exact (h.b.only (fun e => hab e.symm) o1).set (by rw [fill_length]; exact hk) _
theorem FilR.left {w2 W : World} {ba bb n : Nat} {s t : List UInt8} {k : Nat} (h : FilR w2 ba bb n s t k W) (hk : k < n) (hab : ba ≠ bb) (hA : w2.heap.size ≤ ba) (ht : t.length ≤ k) :
    FilR w2 ba bb n s t (k + 1) (W.setCell ⟨ba, k, none⟩ (.int .u8 ((cf s k).toNat : Int))) := by
  have o1 := Only.setCell W ⟨ba, k, none⟩ (.int .u8 ((cf s k).toNat : Int))
  refine ⟨o1.keeps h.kp hA, ?_, ?_⟩
  · rw [← fill_next n s hk]; exact h.a.set (by rw [fill_length]; exact hk) _
  · rw [fill_skip n t ht]; exact h.b.only (fun e => hab e.symm) o1
theorem FilR.right {w2 W : World} {ba bb n : Nat} {s t : List UInt8} {k : Nat} (h : FilR w2 ba bb n s t k W) (hk : k < n) (hab : ba ≠ bb) (hB : w2.heap.size ≤ bb) (hs : s.length ≤ k) :
    FilR w2 ba bb n s t (k + 1) (W.setCell ⟨bb, k, none⟩ (.int .u8 ((cf t k).toNat : Int))) := by
  have o1 := Only.setCell W ⟨bb, k, none⟩ (.int .u8 ((cf t k).toNat : Int))
  refine ⟨o1.keeps h.kp hB, ?_, ?_⟩
  · rw [fill_skip n s hs]; exact h.a.only hab o1
  · rw [← fill_next n t hk]; exact h.b.set (by rw [fill_length]; exact hk) _
theorem FilR.none' {w2 W : World} {ba bb n : Nat} {s t : List UInt8} {k : Nat} (h : FilR w2 ba bb n s t k W) (hs : s.length ≤ k) (ht : t.length ≤ k) : FilR w2 ba bb n s t (k + 1) W :=
  ⟨h.kp, by rw [fill_skip n s hs]; exact h.a, by rw [fill_skip n t ht]; exact h.b⟩
theorem mkR_eq (p k : Int) (l : List UInt8) : mkR p k l = .tuple #[.string (st (if mk p k = 0 then l else [])), .int .i64 (mk p k)] := by
  unfold mkR
  by_cases h : mk p k = 0
  · rw [if_pos h, if_pos h, h]
  · rw [if_neg h, if_neg h]
/-- The boxes of the arguments. -/
structure Boxes (b0 : Nat) (s t b : ByteArray) (six : Bool) (W : World) : Prop where
  old : b0 + 1 < W.heap.size
  s0 : W.cell? ⟨b0, 0, none⟩ = some (.string s)
  t0 : W.cell? ⟨b0, 1, none⟩ = some (.string t)
  b0' : W.cell? ⟨b0 + 1, 0, none⟩ = some (.string b)
  x0 : W.cell? ⟨b0 + 1, 1, none⟩ = some (.bool six)
theorem Boxes.keeps {b0 : Nat} {s t b : ByteArray} {six : Bool} {W W' : World} (h : Boxes b0 s t b six W) (k : Keeps W W') : Boxes b0 s t b six W' := by
  have h1 : b0 < W.heap.size := by have := h.old; omega
  have kc : ∀ i, W'.cell? ⟨b0, i, none⟩ = W.cell? ⟨b0, i, none⟩ := fun i => Below.cell k (p := ⟨b0, i, none⟩) h1
  have kd : ∀ i, W'.cell? ⟨b0 + 1, i, none⟩ = W.cell? ⟨b0 + 1, i, none⟩ := fun i => Below.cell k (p := ⟨b0 + 1, i, none⟩) h.old
  exact ⟨Nat.lt_of_lt_of_le h.old (Below.size k), (kc 0).trans h.s0, (kc 1).trans h.t0, (kd 0).trans h.b0', (kd 1).trans h.x0⟩
theorem Boxes.made (w : World) (s t b : ByteArray) (six : Bool) (t1 t2 : TypeId) : Boxes w.heap.size s t b six ((w.alloc (.cells #[.string s, .string t] t1)).alloc (.cells #[.string b, .bool six] t2)) := by
  have e1 : ∀ i, ((w.alloc (.cells #[.string s, .string t] t1)).alloc (.cells #[.string b, .bool six] t2)).cell? ⟨w.heap.size, i, none⟩ = (w.alloc (.cells #[.string s, .string t] t1)).cell? ⟨w.heap.size, i, none⟩ := fun i =>
    Below.cell ((Keeps.refl (w.alloc (.cells #[.string s, .string t] t1))).alloc (.cells #[.string b, .bool six] t2)) (p := ⟨w.heap.size, i, none⟩) (by simp)
  have e2 : w.heap.size + 1 = (w.alloc (.cells #[.string s, .string t] t1)).heap.size := by rw [World.size_alloc]
  refine ⟨by simp, ?_, ?_, ?_, ?_⟩
  · rw [e1, World.cell?_alloc_new]; rfl
  · rw [e1, World.cell?_alloc_new]; rfl
  · rw [e2, World.cell?_alloc_new]; rfl
  · rw [e2, World.cell?_alloc_new]; rfl
theorem z16 : ((z8 16).map B).toArray = #[.int .u8 0, .int .u8 0, .int .u8 0, .int .u8 0, .int .u8 0, .int .u8 0, .int .u8 0, .int .u8 0, .int .u8 0, .int .u8 0, .int .u8 0, .int .u8 0, .int .u8 0, .int .u8 0, .int .u8 0, .int .u8 0] := rfl
theorem z4 : ((z8 4).map B).toArray = #[.int .u8 0, .int .u8 0, .int .u8 0, .int .u8 0] := rfl
theorem size16 : (Try.prog.info? 41).map (·.size) = some 16 := by kernel_rfl
theorem size4 : (Try.prog.info? 46).map (·.size) = some 4 := by kernel_rfl
theorem blk_range {b : Nat} {l : List UInt8} {w : World} (h : Blk b l w) : w.rangeAt b 0 (l.map B) := by
  intro j v hj
  have hlt : j < l.length := by have := (List.getElem?_eq_some_iff.1 hj).1; rwa [List.length_map] at this
  rw [Nat.zero_add, h.cell j hlt, ← hj, List.getElem?_map, List.getElem?_eq_getElem hlt, cf_lt hlt]; rfl
theorem mk_inv {p k : Int} (h : mk p k = 0) : 0 ≤ p ∧ p < 256 ∧ k ≤ 4080 := by
  unfold mk at h
  split at h
  · cases h
  · split at h
    · cases h
    · omega
set_option maxHeartbeats 8000000 in
theorem core (s t : ByteArray) (p : Int) (bl : List UInt8) (six : Bool) (w : World) (h : bl.length ≤ 4200) :
    Calls Try.prog 5 #[.agg #[.string s, .string t], .int .i64 p, .agg #[.string (st bl), .bool six]] w fun e w' => e = .returned (.bool true) ∧ Below w.heap.size w w' := by
  have hbs : (st bl).size = bl.length := st_size bl
  go_enter Try.func5, Try.ntmps5
  go_wp2
  obtain ⟨b0, hb0⟩ : ∃ b0, w.heap.size = b0 := ⟨_, rfl⟩
  obtain ⟨w2, hw2⟩ : ∃ w2, (w.alloc (.cells #[.string s, .string t] 38)).alloc (.cells #[.string (st bl), .bool six] 40) = w2 := ⟨_, rfl⟩
  have hs2 : w2.heap.size = b0 + 2 := by rw [← hw2, ← hb0]; simp
  have hbx := Boxes.made w s t (st bl) six 38 40
  have hk2 : Keeps w w2 := by rw [← hw2]; exact ((Keeps.refl w).alloc _).alloc _
  rw [hw2, hb0] at hbx
  have hf0 := FilR.start w2 (ls s) (ls t) 16 _ z16 41 hs2 (show b0 + 2 + 1 = b0 + 3 from rfl)
  obtain ⟨wA, hwA⟩ : ∃ wA, (w2.alloc (.cells #[.int .u8 0, .int .u8 0, .int .u8 0, .int .u8 0, .int .u8 0, .int .u8 0, .int .u8 0, .int .u8 0, .int .u8 0, .int .u8 0, .int .u8 0, .int .u8 0, .int .u8 0, .int .u8 0, .int .u8 0, .int .u8 0] 41)).alloc (.cells #[.int .u8 0, .int .u8 0, .int .u8 0, .int .u8 0, .int .u8 0, .int .u8 0, .int .u8 0, .int .u8 0, .int .u8 0, .int .u8 0, .int .u8 0, .int .u8 0, .int .u8 0, .int .u8 0, .int .u8 0, .int .u8 0] 41) = wA := ⟨_, rfl⟩
  rw [hwA] at hf0
  rw [hw2, hwA, hb0]
  have HBX := Lib.hid hbx
  have HK2 := Lib.hid hk2
  have HF0 := Lib.hid hf0
  have HS2 := Lib.hid hs2
  have HBW := Lib.hid (show w.heap.size = b0 from hb0)
  clear hw2 hwA hb0 hbx hk2 hf0 hs2
  go_loopw [9] (fun i wr => filRel w2 (b0 + 2) (b0 + 3) 16 (ls s) (ls t) i wr) (fun i _ => 16 - (intOf i).toNat)
  case atStart => exact ⟨0, by omega, rfl, HF0.out⟩
  case round =>
    obtain ⟨k, hk, rfl, hf⟩ := hrel
    have hbx := HBX.out.keeps hf.kp
    by_cases hlt : k < 16
    · have HF := Lib.hid hf
      have ca := hf.a.cell k (by rw [fill_length]; exact hlt)
      have fa := hf.a.free k (by rw [fill_length]; exact hlt)
      have cb := hf.b.cell k (by rw [fill_length]; exact hlt)
      have fb := hf.b.free k (by rw [fill_length]; exact hlt)
      obtain ⟨_, x0, x1, x2, x3⟩ := hbx
      clear hf
      have hA : w2.heap.size ≤ b0 + 2 := by rw [HS2.out]; exact Nat.le_refl _
      have hB : w2.heap.size ≤ b0 + 3 := by rw [HS2.out]; omega
      have HA := Lib.hid hA
      have HB := Lib.hid hB
      clear hA hB
      by_cases hs : k < s.size
      · have gs := ls_get s k hs
        obtain ⟨x, hx⟩ : ∃ x, cf (ls s) k = x := ⟨_, rfl⟩
        rw [hx] at gs
        have HX := Lib.hid hx
        clear hx
        by_cases ht : k < t.size
        · have gt := ls_get t k ht
          obtain ⟨y, hy⟩ : ∃ y, cf (ls t) k = y := ⟨_, rfl⟩
          rw [hy] at gt
          have HY := Lib.hid hy
          clear hy
          go_wp2
          go_roundw
          case rel =>
            refine ⟨k + 1, by omega, by go_num, ?_⟩
            have := HF.out.both hlt (by omega) HA.out HB.out
            rwa [HX.out, HY.out] at this
          case measure => simp [intOf]; omega
        · have HT := Lib.hid (show (ls t).length ≤ k by rw [← ls_size]; omega)
          go_wp2
          go_roundw
          case rel =>
            refine ⟨k + 1, by omega, by go_num, ?_⟩
            have := HF.out.left hlt (by omega) HA.out HT.out
            rwa [HX.out] at this
          case measure => simp [intOf]; omega
      · have HS := Lib.hid (show (ls s).length ≤ k by rw [← ls_size]; omega)
        by_cases ht : k < t.size
        · have gt := ls_get t k ht
          obtain ⟨y, hy⟩ : ∃ y, cf (ls t) k = y := ⟨_, rfl⟩
          rw [hy] at gt
          have HY := Lib.hid hy
          clear hy
          go_wp2
          go_roundw
          case rel =>
            refine ⟨k + 1, by omega, by go_num, ?_⟩
            have := HF.out.right hlt (by omega) HB.out HS.out
            rwa [HY.out] at this
          case measure => simp [intOf]; omega
        · have HT := Lib.hid (show (ls t).length ≤ k by rw [← ls_size]; omega)
          go_wp2
          go_roundw
          case rel => exact ⟨k + 1, by omega, by go_num, HF.out.none' HS.out HT.out⟩
          case measure => simp [intOf]; omega
    · obtain rfl : k = 16 := by omega
      have HKR := Lib.hid (HK2.out.trans hf.kp)
      have hrg1 := blk_range hf.a
      have hrg2 := blk_range hf.b
      have HBA := Lib.hid hf.a
      have HBB := Lib.hid hf.b
      obtain ⟨F, hF⟩ : ∃ F, fill 16 (ls s) 16 = F := ⟨_, rfl⟩
      obtain ⟨G, hG⟩ : ∃ G, fill 16 (ls t) 16 = G := ⟨_, rfl⟩
      have hFl : F.length = 16 := by rw [← hF, fill_length]
      have hGl : G.length = 16 := by rw [← hG, fill_length]
      rw [hF] at hrg1 HBA
      rw [hG] at hrg2 HBB
      have HFF := Lib.hid hF
      have HGG := Lib.hid hG
      obtain ⟨FL, hFL⟩ : ∃ FL, F.map B = FL := ⟨_, rfl⟩
      obtain ⟨GL, hGL⟩ : ∃ GL, G.map B = GL := ⟨_, rfl⟩
      have hsz1 : (Try.prog.info? 41).map (·.size) = some FL.length := by rw [← hFL, List.length_map, hFl]; exact size16
      have hsz2 : (Try.prog.info? 41).map (·.size) = some GL.length := by rw [← hGL, List.length_map, hGl]; exact size16
      rw [hFL] at hrg1
      rw [hGL] at hrg2
      have HFL := Lib.hid (show (F.map B).toArray = FL.toArray by rw [hFL])
      have HGL := Lib.hid (show (G.map B).toArray = GL.toArray by rw [hGL])
      have HFN := Lib.hid hFl
      have HGN := Lib.hid hGl
      have HBR := Lib.hid hbx
      obtain ⟨_, x0, x1, x2, x3⟩ := hbx
      clear hf hF hG hFL hGL hFl hGl hlt hk HF0
      go_wp2_with (first | (with_reducible refine wpList_load_mid rfl _ _ rfl (b0 + 2) 0 rfl FL _ hrg1 Try.underlying41 rfl hsz1 ?_) | (with_reducible refine wpList_load_mid rfl _ _ rfl (b0 + 3) 0 rfl GL _ hrg2 Try.underlying41 rfl hsz2 ?_))
      refine (dgmake6_any wr F G bl FL.toArray GL.toArray HFL.out HGL.out HFN.out HGN.out p wr (by omega) (Keeps.refl wr)).mono ?_
      rintro e w3 ⟨rfl, hk3⟩
      have HR6 := Lib.hid (show ∀ W : World, Calls Try.prog 19 #[.string (st F), .string (st G), .int .i64 p, .string (st bl)] W fun e w' => e = .returned (mkR p (40 + (bl.length : Int)) (make6 F G (UInt8.ofNat p.toNat) bl)) ∧ Keeps W w' from
        fun W => dgrmake6_any W F G bl HFN.out HGN.out p W (by omega) (Keeps.refl W))
      rw [mkR_eq] at HR6
      rw [mkR_eq]
      obtain ⟨E6, hE6⟩ : ∃ E, mk p (40 + (bl.length : Int)) = E := ⟨_, rfl⟩
      obtain ⟨S6, hS6⟩ : ∃ S, (if E6 = 0 then make6 F G (UInt8.ofNat p.toNat) bl else []) = S := ⟨_, rfl⟩
      rw [hE6, hS6] at HR6
      rw [hE6, hS6]
      have HE6 := Lib.hid hE6
      have HS6 := Lib.hid hS6
      have HB3 := Lib.hid (HBR.out.keeps hk3)
      have HA3 := Lib.hid (show Blk (b0 + 1 + 1) F w3 from HBA.out.below hk3)
      have HC3 := Lib.hid (show Blk (b0 + 1 + 1 + 1) G w3 from HBB.out.below hk3)
      have HK3 := Lib.hid (HKR.out.trans hk3)
      obtain ⟨sF, hsF⟩ : ∃ q, st F = q := ⟨_, rfl⟩
      obtain ⟨sG, hsG⟩ : ∃ q, st G = q := ⟨_, rfl⟩
      rw [hsF, hsG] at HR6
      have HSF := Lib.hid hsF
      have HSG := Lib.hid hsG
      obtain ⟨s6, hs6⟩ : ∃ q, st S6 = q := ⟨_, rfl⟩
      rw [hs6] at HR6
      rw [hs6]
      have HSS := Lib.hid hs6
      clear hE6 hS6 hk3 hsF hsG hs6 hrg1 hrg2 hsz1 hsz2 HFL HGL x0 x1 x2 x3 HBA HBB HBR
      go_wp2
      refine wp_draw (by kernel_rfl)
        [.slice (some ⟨b0 + 1 + 1, 0, none⟩) 16 16, .string sF, .slice (some ⟨b0 + 1 + 1 + 1, 0, none⟩) 16 16, .string sG, .int .i64 p, .pointer (some ⟨b0 + 1, 0, none⟩), .string (st bl), .tuple #[.string s6, .int .i64 E6], .tuple #[.string s6, .int .i64 E6], .string s6, .int .i64 E6, .string s6, .int .i64 E6]
        (fun _ W => Keeps w3 W)
        rfl (by kernel_rfl) (fin := ?fin) ?hfin ((Keeps.refl w3).eqv (Eqv.drew w3)) ?each ?hend
      case hfin => simp [seqA, dstOf, Act.put]; rfl
      case each =>
        refine ⟨?_, ?_, ?_, ?_, ?_, ?_, ?_, ?_, ?_, ?_, ?_, ?_, ?_, trivial⟩
        all_goals intro L6 w6 h0 hd hs hw
        all_goals unfold Does
        rotate_left 1
        · have hcv := (HA3.out.below hw).whole 16 (n := 16) HFN.out.symm
          rw [HSF.out] at hcv
          go_simp
        rotate_left 1
        · have hcv := (HC3.out.below hw).whole 16 (n := 16) HGN.out.symm
          rw [HSG.out] at hcv
          go_simp
        rotate_left 3
        · go_simp
          refine (HR6.out w6).mono ?_
          rintro e w7 ⟨rfl, h7⟩
          exact ⟨_, rfl, rfl, fun _ _ => hw.trans h7⟩
        all_goals have x2 := (HB3.out.keeps hw).b0'
        all_goals go_simp
      case hend =>
        intro L6 w6 hL6 hw
        clear hL6
        have HK6 := Lib.hid (HK3.out.trans hw)
        have HA6 := Lib.hid (HA3.out.below hw)
        have HC6 := Lib.hid (HC3.out.below hw)
        obtain ⟨hol, x0, x1, x2, x3⟩ := HB3.out.keeps hw
        have HB6 := Lib.hid (HB3.out.keeps hw)
        clear hw
        cases six
        · go_wp2
          obtain ⟨wb, hwb⟩ : ∃ wb, w6.heap.size = wb := ⟨_, rfl⟩
          have hwant := Hd4.made w6 ⟨6, 40, 40 + (bl.length : Int), p⟩ 28
          have hkw := HK6.out.alloc (.cells #[.int .i64 6, .int .i64 40, .int .i64 (40 + (bl.length : Int)), .int .i64 p] 28)
          have hk67 := (Keeps.refl w6).alloc (.cells #[.int .i64 6, .int .i64 40, .int .i64 (40 + (bl.length : Int)), .int .i64 p] 28)
          obtain ⟨w7, hw7⟩ : ∃ w7, w6.alloc (.cells #[.int .i64 6, .int .i64 40, .int .i64 (40 + (bl.length : Int)), .int .i64 p] 28) = w7 := ⟨_, rfl⟩
          have hs7 : w7.heap.size = wb + 1 := by rw [← hw7, ← hwb]; simp
          simp only at hwant
          rw [hw7] at hwant hkw hk67
          rw [hwb] at hwant
          rw [hw7, hwb]
          have hf0 := FilR.start w7 (ls s) (ls t) 4 _ z4 46 hs7 (show wb + 1 + 1 = wb + 1 + 1 from rfl)
          obtain ⟨wC, hwC⟩ : ∃ wC, (w7.alloc (.cells #[.int .u8 0, .int .u8 0, .int .u8 0, .int .u8 0] 46)).alloc (.cells #[.int .u8 0, .int .u8 0, .int .u8 0, .int .u8 0] 46) = wC := ⟨_, rfl⟩
          rw [hwC] at hf0
          rw [hwC]
          have HF0 := Lib.hid hf0
          have HS7 := Lib.hid hs7
          have HKW := Lib.hid hkw
          have HWT := Lib.hid hwant
          have HLT := Lib.hid (show b0 + 1 + 1 + 1 < wb by rw [← hwb]; exact HC6.out.old)
          have HA7 := Lib.hid (HA6.out.below hk67)
          have HC7 := Lib.hid (HC6.out.below hk67)
          have HB7 := Lib.hid (HB6.out.keeps hk67)
          clear hw7 hwb hs7 hf0 hwC hkw hwant hk67 x0 x1 x2 x3 hol HA6 HC6 HB6
          go_loopw [17] (fun i wr => filRel w7 (wb + 1) (wb + 1 + 1) 4 (ls s) (ls t) i wr) (fun i _ => 4 - (intOf i).toNat)
          case atStart => exact ⟨0, by omega, rfl, HF0.out⟩
          case round =>
            obtain ⟨k, hk, rfl, hf⟩ := hrel
            by_cases hlt : k < 4
            · have HF := Lib.hid hf
              obtain ⟨x, hx⟩ : ∃ x, cf (ls s) k = x := ⟨_, rfl⟩
              obtain ⟨y, hy⟩ : ∃ y, cf (ls t) k = y := ⟨_, rfl⟩
              have cF : wr.cell? ⟨b0 + 1 + 1, k, none⟩ = some (.int .u8 (x.toNat : Int)) := by
                rw [(HA7.out.below hf.kp).cell k (by rw [HFN.out]; omega), ← HFF.out, cf_fill 16 (ls s) 16 k (by omega), if_pos (by omega), hx]
              have cG : wr.cell? ⟨b0 + 1 + 1 + 1, k, none⟩ = some (.int .u8 (y.toNat : Int)) := by
                rw [(HC7.out.below hf.kp).cell k (by rw [HGN.out]; omega), ← HGG.out, cf_fill 16 (ls t) 16 k (by omega), if_pos (by omega), hy]
              have ca := hf.a.cell k (by rw [fill_length]; exact hlt)
              have fa := hf.a.free k (by rw [fill_length]; exact hlt)
              have cb := hf.b.cell k (by rw [fill_length]; exact hlt)
              have fb := hf.b.free k (by rw [fill_length]; exact hlt)
              have cG2 : (wr.setCell ⟨wb + 1, k, none⟩ (.int .u8 (x.toNat : Int))).cell? ⟨b0 + 1 + 1 + 1, k, none⟩ = some (.int .u8 (y.toNat : Int)) := by
                have := HLT.out
                rw [World.cell?_setCell_other _ _ _ _ (by intro e; have := congrArg Addr.block e; simp at this; omega)]; exact cG
              have HX := Lib.hid hx
              have HY := Lib.hid hy
              clear hf hx hy
              go_wp2
              go_roundw
              case rel =>
                refine ⟨k + 1, by omega, by go_num, ?_⟩
                have := HF.out.both hlt (by omega) (by rw [HS7.out]; exact Nat.le_refl _) (by rw [HS7.out]; omega)
                rwa [HX.out, HY.out] at this
              case measure => simp [intOf]; omega
            · obtain rfl : k = 4 := by omega
              have HKR2 := Lib.hid (HKW.out.trans hf.kp)
              have hrg1 := blk_range hf.a
              have hrg2 := blk_range hf.b
              have HBA := Lib.hid hf.a
              have HBB := Lib.hid hf.b
              have HWD := Lib.hid (HWT.out.keeps hf.kp)
              have hbx := HB7.out.keeps hf.kp
              have HBR := Lib.hid hbx
              have HWB := Lib.hid (show w.heap.size ≤ wb by have h1 := Below.size HK6.out; have h2 := Below.size HKW.out; rw [HS7.out] at h2; have h3 := HLT.out; have := HBW.out; omega)
              obtain ⟨C4, hC4⟩ : ∃ F, fill 4 (ls s) 4 = F := ⟨_, rfl⟩
              obtain ⟨D4, hD4⟩ : ∃ G, fill 4 (ls t) 4 = G := ⟨_, rfl⟩
              have hCl : C4.length = 4 := by rw [← hC4, fill_length]
              have hDl : D4.length = 4 := by rw [← hD4, fill_length]
              rw [hC4] at hrg1 HBA
              rw [hD4] at hrg2 HBB
              obtain ⟨CL, hCL⟩ : ∃ FL, C4.map B = FL := ⟨_, rfl⟩
              obtain ⟨DL, hDL⟩ : ∃ GL, D4.map B = GL := ⟨_, rfl⟩
              have hsz1 : (Try.prog.info? 46).map (·.size) = some CL.length := by rw [← hCL, List.length_map, hCl]; exact size4
              have hsz2 : (Try.prog.info? 46).map (·.size) = some DL.length := by rw [← hDL, List.length_map, hDl]; exact size4
              rw [hCL] at hrg1
              rw [hDL] at hrg2
              have HCL := Lib.hid (show (C4.map B).toArray = CL.toArray by rw [hCL])
              have HDL := Lib.hid (show (D4.map B).toArray = DL.toArray by rw [hDL])
              have HCN := Lib.hid hCl
              have HDN := Lib.hid hDl
              obtain ⟨_, x0, x1, x2, x3⟩ := hbx
              clear hf hC4 hD4 hCL hDL hCl hDl hlt hk HF0
              go_wp2_with (first | (with_reducible refine wpList_load_mid rfl _ _ rfl (wb + 1) 0 rfl CL _ hrg1 Try.underlying46 rfl hsz1 ?_) | (with_reducible refine wpList_load_mid rfl _ _ rfl (wb + 1 + 1) 0 rfl DL _ hrg2 Try.underlying46 rfl hsz2 ?_))
              refine (dgmake4_any wr C4 D4 bl CL.toArray DL.toArray HCL.out HDL.out HCN.out HDN.out p wr (by omega) (Keeps.refl wr)).mono ?_
              rintro e w8 ⟨rfl, hk8⟩
              have HR4 := Lib.hid (show ∀ W : World, Calls Try.prog 21 #[.string (st C4), .string (st D4), .int .i64 p, .string (st bl)] W fun e w' => e = .returned (mkR p (20 + (bl.length : Int)) (make4 C4 D4 (UInt8.ofNat p.toNat) bl)) ∧ Keeps W w' from
                fun W => dgrmake4_any W C4 D4 bl HCN.out HDN.out p W (by omega) (Keeps.refl W))
              rw [mkR_eq] at HR4
              rw [mkR_eq]
              obtain ⟨E4, hE4⟩ : ∃ E, mk p (20 + (bl.length : Int)) = E := ⟨_, rfl⟩
              obtain ⟨S4, hS4⟩ : ∃ S, (if E4 = 0 then make4 C4 D4 (UInt8.ofNat p.toNat) bl else []) = S := ⟨_, rfl⟩
              rw [hE4, hS4] at HR4
              rw [hE4, hS4]
              have HE4 := Lib.hid hE4
              have HS4 := Lib.hid hS4
              have HB8 := Lib.hid (HBR.out.keeps hk8)
              have HA8 := Lib.hid (HBA.out.below hk8)
              have HC8 := Lib.hid (HBB.out.below hk8)
              have HD8 := Lib.hid (HWD.out.keeps hk8)
              have HK8 := Lib.hid (HKR2.out.trans hk8)
              obtain ⟨sC, hsC⟩ : ∃ q, st C4 = q := ⟨_, rfl⟩
              obtain ⟨sD, hsD⟩ : ∃ q, st D4 = q := ⟨_, rfl⟩
              rw [hsC, hsD] at HR4
              have HSC := Lib.hid hsC
              have HSD := Lib.hid hsD
              obtain ⟨s4, hs4⟩ : ∃ q, st S4 = q := ⟨_, rfl⟩
              rw [hs4] at HR4
              rw [hs4]
              have HS44 := Lib.hid hs4
              clear hE4 hS4 hk8 hsC hsD hs4 hrg1 hrg2 hsz1 hsz2 HCL HDL x0 x1 x2 x3 HBA HBB HBR
              go_wp2
              refine wp_draw (by kernel_rfl)
                [.slice (some ⟨wb + 1, 0, none⟩) 4 4, .string sC, .slice (some ⟨wb + 1 + 1, 0, none⟩) 4 4, .string sD, .int .i64 p, .pointer (some ⟨b0 + 1, 0, none⟩), .string (st bl), .tuple #[.string s4, .int .i64 E4], .tuple #[.string s4, .int .i64 E4], .string s4, .int .i64 E4, .string s4, .int .i64 E4]
                (fun _ W => Keeps w8 W)
                rfl (by kernel_rfl) (fin := ?finc) ?hfinc ((Keeps.refl w8).eqv (Eqv.drew w8)) ?eachc ?hendc
              case hfinc => simp [seqA, dstOf, Act.put]; rfl
              case eachc =>
                refine ⟨?_, ?_, ?_, ?_, ?_, ?_, ?_, ?_, ?_, ?_, ?_, ?_, ?_, trivial⟩
                all_goals intro L9 w9 h0 hd hs hw
                all_goals unfold Does
                rotate_left 1
                · have hcv := (HA8.out.below hw).whole 4 (n := 4) HCN.out.symm
                  rw [HSC.out] at hcv
                  go_simp
                rotate_left 1
                · have hcv := (HC8.out.below hw).whole 4 (n := 4) HDN.out.symm
                  rw [HSD.out] at hcv
                  go_simp
                rotate_left 3
                · go_simp
                  refine (HR4.out w9).mono ?_
                  rintro e w10 ⟨rfl, h10⟩
                  exact ⟨_, rfl, rfl, fun _ _ => hw.trans h10⟩
                all_goals have x2 := (HB8.out.keeps hw).b0'
                all_goals go_simp
              case hendc =>
                intro L9 w9 hL9 hw
                clear hL9
                have HK9 := Lib.hid (HK8.out.trans hw)
                have HD9 := Lib.hid (HD8.out.keeps hw)
                obtain ⟨hol, x0, x1, x2, x3⟩ := HB8.out.keeps hw
                obtain ⟨y0, y1, y2, y3, g0, g1, g2, g3⟩ := HD8.out.keeps hw
                clear hw hol
                by_cases hE : E4 = 0
                · have hmk := mk_inv (HE4.out.trans hE)
                  obtain ⟨p8, hp8⟩ := u8_of (n := p) (by omega)
                  have hSm : S4 = make4 C4 D4 p8 bl := by rw [← HS4.out, if_pos hE, hp8, Int.toNat_natCast, UInt8.ofNat_toNat]
                  have HPK := Lib.hid (show peek (ls s4) = (⟨4, 20, 20 + (bl.length : Int), p⟩, 0) by rw [← HS44.out, ls_st, hSm, peek_make4 HCN.out HDN.out (by omega), hp8])
                  have HCK := Lib.hid (show check (ls s4) = 0 by rw [← HS44.out, ls_st, hSm, check_make4 HCN.out HDN.out (by omega)])
                  have hsl : s4.size = 20 + bl.length := by rw [← HS44.out, st_size, hSm, make4_length HCN.out HDN.out]
                  have hp0 : 0 ≤ p ∧ p < 256 := ⟨hmk.1, hmk.2.1⟩
                  have P1 := Lib.hid (show ∀ W : World, Calls Try.prog 10 #[.string s4] W fun e w' => e = .returned (.tuple #[hdV 4 20 (20 + (bl.length : Int)) p, .int .i64 0]) ∧ Keeps W w' by
                    intro W
                    have := dgpeek_any W s4 W (by omega) (Keeps.refl W)
                    unfold PkPost HdPost at this
                    rw [HPK.out] at this
                    exact this)
                  have C1 := Lib.hid (show ∀ W : World, Calls Try.prog 12 #[.string s4] W fun e w' => e = .returned (.int .i64 0) ∧ Keeps W w' by
                    intro W
                    have := dgcheck_any W s4 W (by omega) (Keeps.refl W)
                    unfold ChPost at this
                    rwa [HCK.out] at this)
                  rw [hE]
                  clear hmk hp8 hSm hE hsl
                  go_wp2_with fail
                  have hwant := HD9.out.store 4 20 (20 + (bl.length : Int)) p
                  have hkw := HK9.out.store 4 20 (20 + (bl.length : Int)) p HWB.out
                  refine (P1.out _).mono ?_
                  rintro e w17 ⟨rfl, hk17⟩
                  have hw17 := hwant.keeps hk17
                  have hw18 := hw17.keeps ((Keeps.refl w17).alloc (.cells #[.int .i64 4, .int .i64 20, .int .i64 (20 + (bl.length : Int)), .int .i64 p] 24))
                  have hn18 := Hd4.made w17 ⟨4, 20, 20 + (bl.length : Int), p⟩ 24
                  have hk18 := (hkw.trans hk17).alloc (.cells #[.int .i64 4, .int .i64 20, .int .i64 (20 + (bl.length : Int)), .int .i64 p] 24)
                  go_wp2_with fail
                  refine (C1.out _).mono ?_
                  rintro e w19 ⟨rfl, hk19⟩
                  obtain ⟨q0, q1, q2, q3, _⟩ := hw18.keeps hk19
                  obtain ⟨r0, r1, r2, r3, _⟩ := hn18.keeps hk19
                  have HK19 := Lib.hid (hk18.trans hk19)
                  clear hw17 hw18 hn18 hk18 hk19 hk17 hwant
                  go_wp2_with fail
                  refine (awake7_any w w19 HK19.out).mono ?_
                  rintro e w20 ⟨rfl, hk20⟩
                  go_wp2
                  go_ret
                  exact ⟨rfl, hk20⟩
                · have hS0 : S4 = [] := by rw [← HS4.out, if_neg hE]
                  have hse : s4.toList = [] := by rw [← HS44.out, hS0, st_toList]
                  have hsb : s4.toList.isEmpty = true := by rw [hse]; rfl
                  have hne : (E4 != 0) = true := by simpa using hE
                  clear hE hS0 hse
                  go_wp2_with fail
                  have hwant := HD9.out.store 4 20 (20 + (bl.length : Int)) p
                  have hkw := HK9.out.store 4 20 (20 + (bl.length : Int)) p HWB.out
                  refine (awake7_any w _ hkw).mono ?_
                  rintro e w17 ⟨rfl, hk17⟩
                  go_wp2
                  go_ret
                  exact ⟨rfl, hk17⟩
        · skip
          by_cases hE : E6 = 0
          · have hmk := mk_inv (HE6.out.trans hE)
            obtain ⟨p8, hp8⟩ := u8_of (n := p) (by omega)
            have hSm : S6 = make6 F G p8 bl := by rw [← HS6.out, if_pos hE, hp8, Int.toNat_natCast, UInt8.ofNat_toNat]
            have HPK := Lib.hid (show peek (ls s6) = (⟨6, 40, 40 + (bl.length : Int), p⟩, 0) by rw [← HSS.out, ls_st, hSm, peek_make6 HFN.out HGN.out (by omega), hp8])
            have HCK := Lib.hid (show check (ls s6) = 0 by rw [← HSS.out, ls_st, hSm, check_make6 HFN.out HGN.out (by omega)])
            have hsl : s6.size = 40 + bl.length := by rw [← HSS.out, st_size, hSm, make6_length HFN.out HGN.out]
            have hp0 : 0 ≤ p ∧ p < 256 := ⟨hmk.1, hmk.2.1⟩
            have P1 := Lib.hid (show ∀ W : World, Calls Try.prog 10 #[.string s6] W fun e w' => e = .returned (.tuple #[hdV 6 40 (40 + (bl.length : Int)) p, .int .i64 0]) ∧ Keeps W w' by
              intro W
              have := dgpeek_any W s6 W (by omega) (Keeps.refl W)
              unfold PkPost HdPost at this
              rw [HPK.out] at this
              exact this)
            have C1 := Lib.hid (show ∀ W : World, Calls Try.prog 12 #[.string s6] W fun e w' => e = .returned (.int .i64 0) ∧ Keeps W w' by
              intro W
              have := dgcheck_any W s6 W (by omega) (Keeps.refl W)
              unfold ChPost at this
              rwa [HCK.out] at this)
            rw [hE]
            clear hmk hp8 hSm hE hsl
            go_wp2_with fail
            have hwant : Hd4 w6.heap.size ⟨6, 40, 40 + (bl.length : Int), p⟩ (w6.alloc (.cells #[.int .i64 6, .int .i64 40, .int .i64 (40 + (bl.length : Int)), .int .i64 p] 28)) := Hd4.made w6 ⟨6, 40, 40 + (bl.length : Int), p⟩ _
            have hkw : Keeps w (w6.alloc (.cells #[.int .i64 6, .int .i64 40, .int .i64 (40 + (bl.length : Int)), .int .i64 p] 28)) := HK6.out.alloc _
            refine (P1.out _).mono ?_
            rintro e w7 ⟨rfl, hk7⟩
            have hw7 := hwant.keeps hk7
            have hw8 := hw7.keeps ((Keeps.refl w7).alloc (.cells #[.int .i64 6, .int .i64 40, .int .i64 (40 + (bl.length : Int)), .int .i64 p] 24))
            have hn8 := Hd4.made w7 ⟨6, 40, 40 + (bl.length : Int), p⟩ 24
            have hk8 := (hkw.trans hk7).alloc (.cells #[.int .i64 6, .int .i64 40, .int .i64 (40 + (bl.length : Int)), .int .i64 p] 24)
            go_wp2_with fail
            refine (C1.out _).mono ?_
            rintro e w9 ⟨rfl, hk9⟩
            obtain ⟨q0, q1, q2, q3, _⟩ := hw8.keeps hk9
            obtain ⟨r0, r1, r2, r3, _⟩ := hn8.keeps hk9
            have HK9 := Lib.hid (hk8.trans hk9)
            clear hw7 hw8 hn8 hk8 hk9 hk7 hwant
            go_wp2_with fail
            refine (awake7_any w w9 HK9.out).mono ?_
            rintro e w10 ⟨rfl, hk10⟩
            go_wp2
            go_ret
            exact ⟨rfl, hk10⟩
          · have hS0 : S6 = [] := by rw [← HS6.out, if_neg hE]
            have hse : s6.toList = [] := by rw [← HSS.out, hS0, st_toList]
            have hsb : s6.toList.isEmpty = true := by rw [hse]; rfl
            have hne : (E6 != 0) = true := by simpa using hE
            clear hE hS0 hse
            go_wp2_with fail
            have hwant : Hd4 w6.heap.size ⟨6, 40, 40 + (bl.length : Int), p⟩ (w6.alloc (.cells #[.int .i64 6, .int .i64 40, .int .i64 (40 + (bl.length : Int)), .int .i64 p] 28)) := Hd4.made w6 ⟨6, 40, 40 + (bl.length : Int), p⟩ _
            have hkw : Keeps w (w6.alloc (.cells #[.int .i64 6, .int .i64 40, .int .i64 (40 + (bl.length : Int)), .int .i64 p] 28)) := HK6.out.alloc _
            refine (awake7_any w _ hkw).mono ?_
            rintro e w7 ⟨rfl, hk7⟩
            go_wp2
            go_ret
            exact ⟨rfl, hk7⟩
theorem walk (s t : ByteArray) (p : Int) (wp : (Lit.int .i64 p).wf = true) (b : ByteArray) (six : Bool) (w : World) :
    Calls Try.prog 5 #[.agg #[.string s, .string t], .int .i64 p, .agg #[.string b, .bool six]] w fun e w' => e = .returned (.bool true) ∧ Below w.heap.size w w' := by
  by_cases h : b.size ≤ 4200
  · have := core s t p (ls b) six w (by rw [← ls_size]; exact h)
    rwa [st_ls] at this
  · exact off s t p b six w h


theorem own : ownKnob Try.prog.godebug = none := by kernel_rfl
theorem laidOut : laidOutB Try.prog = true := by kernel_rfl
set_option maxRecDepth 100000 in
theorem lifted (os : Os) (started : os.Started) (H : Type) (enc : TypeId × Value → H) :
    ReturnsInHanded {} Try.checked os 5 .any (Rows.datagramMakesSpec.pre6 enc Try.prog Try.f5 Rows.datagramMakesRow.domain false) (Rows.datagramMakesSpec.post enc Try.prog Try.f5 false true false false) := by
  refine returnsInHanded_of_change (C := Try.checked) own started (by kernel_rfl) Try.func5
    (ChangeSpec.witness6 (enc := enc) (C := Try.checked) false ⟨#[], #[.agg #[.string ByteArray.empty, .string ByteArray.empty], .int .i64 0, .agg #[.string ByteArray.empty, .bool false]], []⟩ 8 (by kernel_rfl) (by kernel_rfl) (by kernel_rfl) (by kernel_rfl)) ?_
  intro W base args ds gs before hval0 hW hcnd _
  have hval : ∀ (j : Nat) t v, Try.f5.params[j]? = some t → args[j]? = some v → Value.okWide Try.prog W .any base t v := hval0
  have hW' := hW
  obtain ⟨p, q, hA0, hV, rfl, hfz, hnd⟩ := hW
  have hA : DataW.TrodAll enc Try.prog W 0 (fun _ => true) true Try.f5.params.toList args.toList ds p := hA0
  rw [Try.params5] at hA hval
  obtain ⟨v0, vs0, d0, ds0, p0, q0, hargs, rfl, rfl, h0, r0⟩ := trodAll_cons hA
  obtain ⟨v1, vs1, d1, ds1, p1, q1, rfl, rfl, rfl, h1, r1⟩ := trodAll_cons r0
  obtain ⟨v2, vs2, d2, ds2, p2, q2, rfl, rfl, rfl, h2, r2⟩ := trodAll_cons r1
  obtain ⟨rfl, rfl, rfl⟩ := trodAll_nil r2
  obtain rfl : args = #[v0, v1, v2] := by cases args; simp_all
  obtain ⟨rfl, rfl⟩ := trodVars_none hV
  have k0 := h0
  have lt0 : ∀ x ∈ p0, x.block < W.heap.size := by obtain ⟨m, hm⟩ := k0; exact DataW.trod_lt m _ _ _ hm
  obtain ⟨s0, t0, rfl⟩ := open_texts2 (hval 0 38 v0 rfl rfl) h0
  obtain ⟨a1, rfl, rfl, rfl, w1⟩ := open_int Try.underlying3 (hval 1 3 v1 rfl rfl) h1
  have k2 := h2
  have lt2 : ∀ x ∈ p2, x.block < W.heap.size := by obtain ⟨m, hm⟩ := k2; exact DataW.trod_lt m _ _ _ hm
  obtain ⟨s2, b2, rfl⟩ := open_body (hval 2 40 v2 rfl rfl) h2
  clear hA0 hval0
  refine (walk s0 t0 a1 w1 s2 b2 W).mono fun e W' ⟨he, bel⟩ => ?_
  subst he
  exact ⟨_, rfl, _, _, _, [], _, [], hW', trodAll_mk1 (shut_bool Try.underlying4 _), (trodAll_cons_mk (Below.trod laidOut (by kernel_rfl) (of_decide_eq_true (by kernel_rfl)) k0 bel lt0) (trodAll_cons_mk (shut_int Try.underlying3 w1) (trodAll_cons_mk (Below.trod laidOut (by kernel_rfl) (of_decide_eq_true (by kernel_rfl)) k2 bel lt2) trodAll_mk0))), rfl, bel.frame _, fun h => by cases h⟩

theorem over : Rows.datagramMakesRow.holds Try.pinned (OpenSpec.ofChange Rows.datagramMakesSpec) :=
  OpenClaim.holds_of_wide 5 Try.f5 rfl rfl rfl rfl rfl rfl rfl ⟨rfl, rfl, rfl, rfl, rfl⟩ rfl rfl rfl rfl rfl (by kernel_rfl) Try.func5 (by kernel_rfl)
    (of_decide_eq_true (by kernel_rfl)) (by unfold Func.isWrapper; first | (rw [if_pos (by decide +kernel)]; kernel_rfl) | (rw [if_neg (by decide +kernel)]; exact ⟨rfl, rfl⟩))
    (fun os started H enc _ => lifted os started H enc)

theorem proved : Rows.DatagramMakesSaid := over
#print axioms proved
end Go.Proofs.Ytggokcakikkdgaa.datagramMakes
