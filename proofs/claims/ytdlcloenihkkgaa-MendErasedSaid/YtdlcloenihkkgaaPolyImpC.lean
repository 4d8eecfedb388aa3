/-
  addTimes: what is added to a row of bytes. For all bytes; nothing turns but the row.
-/
import Derived.Test.YtdlcloenihkkgaaGfK
import Derived.Test.YtdlcloenihkkgaaPolyImpB
namespace Go.Proofs.Ytdlcloenihkkgaa
open Go.RowKit Go.Shelf Gf
set_option maxRecDepth 100000
/-- What lies there behind k rounds of addTimes. -/
def atRow (l : List UInt8) (off : Nat) (c : UInt8) (p : List UInt8) (k : Nat) : List UInt8 := row l.length (fun i => cf l i ^^^ (if off ≤ i ∧ i < off + k then fm c (cf p (i - off)) else 0))
theorem atRow_length (l : List UInt8) (off : Nat) (c : UInt8) (p : List UInt8) (k : Nat) : (atRow l off c p k).length = l.length := row_length _ _
theorem cf_atRow {l : List UInt8} {off : Nat} {c : UInt8} {p : List UInt8} {k i : Nat} (hi : i < l.length) : cf (atRow l off c p k) i = cf l i ^^^ (if off ≤ i ∧ i < off + k then fm c (cf p (i - off)) else 0) := by
  unfold atRow; rw [cf_row, if_pos hi]
theorem atRow_zero (l : List UInt8) (off : Nat) (c : UInt8) (p : List UInt8) : atRow l off c p 0 = l :=
  list_ext_cf (atRow_length ..) fun i hi => by rw [atRow_length] at hi; rw [cf_atRow hi, if_neg (by omega), xor_z]
theorem atRow_succ {l : List UInt8} {off : Nat} {c : UInt8} {p : List UInt8} {k : Nat} (h : off + k < l.length) :
    (atRow l off c p k).set (off + k) (cf (atRow l off c p k) (off + k) ^^^ fm c (cf p k)) = atRow l off c p (k + 1) := by
  refine list_ext_cf (by rw [List.length_set, atRow_length, atRow_length]) fun i hi => ?_
  rw [List.length_set, atRow_length] at hi
  rw [cf_set _ _ _ (by rw [atRow_length]; exact h), cf_atRow hi]
  by_cases e : i = off + k
  · subst e
    rw [if_pos rfl, cf_atRow h, if_neg (by omega), cf_atRow h, if_pos (by omega), xor_z, show off + k - off = k by omega]
  · rw [if_neg e, cf_atRow hi]
    by_cases e2 : off ≤ i ∧ i < off + k
    · rw [if_pos e2, if_pos (by omega)]
    · rw [if_neg e2, if_neg (by omega)]
def tiRel (b : Nat) (l : List UInt8) (off : Nat) (c : UInt8) (p : List UInt8) (w : World) (i : Value) (wr : World) : Prop :=
  ∃ k : Nat, k ≤ p.length ∧ i = .int .i64 (k : Int) ∧ Blk b (atRow l off c p k) wr ∧ Only b w wr
set_option maxRecDepth 100000 in
set_option maxHeartbeats 4000000 in
theorem addTimes_any (fb b off cap : Nat) (c : UInt8) (p : ByteArray) (l : List UInt8) (w : World) (hf : FieldAt fb w) (hb : Blk b l w) (hne : fb ≠ b) (hlen : off + p.size ≤ l.length) (hl : l.length ≤ 1000000) :
    Calls Try.prog 73 #[.pointer (some ⟨fb, 0, none⟩), .slice (some ⟨b, off, none⟩) (l.length - off) cap, .int .u8 (c.toNat : Int), .string p] w fun e w' =>
      e = .returned (.tuple #[]) ∧ Blk b (atRow l off c (ls p) p.size) w' ∧ Only b w w' := by
  generalize hm : l.length - off = m at *
  go_enter Try.func73, Try.ntmps73
  go_wp2
  go_loopw [11] (fun i wr => tiRel b l off c (ls p) w i wr) (fun i _ => p.size - (intOf i).toNat)
  case atStart => exact ⟨0, by omega, rfl, by rw [atRow_zero]; exact hb, Only.refl _ _⟩
  case round =>
    obtain ⟨k, hk, rfl, hblk, hon⟩ := hrel
    rw [← ls_size] at hk
    by_cases hlt : k < p.size
    · have hgt := ls_get p k hlt
      have hkm : k < m := by omega
      have hr1 : off + k < (atRow l off c (ls p) k).length := by rw [atRow_length]; omega
      have hc0 := hblk.cell (off + k) hr1
      have hz0 := hblk.free (off + k) hr1
      have hf0 := hf.only hne hon
      have HN := Lib.hid (atRow_succ (c := c) (p := ls p) (show off + k < l.length by omega))
      generalize hr : atRow l off c (ls p) k = r at *
      generalize hy : cf r (off + k) = y at *
      generalize hq : cf (ls p) k = q at *
      generalize ht : fm c q = t at *
      generalize hz : y ^^^ t = z at *
      have hft : ∀ W : World, FieldAt fb W → Calls Try.prog 59 #[.pointer (some ⟨fb, 0, none⟩), .int .u8 (c.toNat : Int), .int .u8 (q.toNat : Int)] W fun e w' => e = .returned (.int .u8 (t.toNat : Int)) ∧ Eqv W w' := fun W h => by rw [← ht]; exact fmul8 fb c q W h
      have hat : ∀ (g : Nat) (W : World), W.cell? ⟨g, 0, none⟩ = some (.int .u8 (y.toNat : Int)) → W.cell? ⟨g, 1, none⟩ = some (.int .u8 (t.toNat : Int)) → Calls Try.prog 56 #[.slice (some ⟨g, 0, none⟩) 2 2] W fun e w' => e = .returned (.int .u8 (z.toNat : Int)) ∧ W = w' := fun g W h k => by rw [← hz]; exact add8 g y t W h k
      have HT := Lib.hid ht
      have HZ := Lib.hid hz
      clear ht hz
      have kI : (k : Int) < (m : Int) := by omega
      have kP : (k : Int) < (p.size : Int) := by omega
      obtain ⟨X, hX⟩ : ∃ X : Obj, X = .cells #[.int .u8 (y.toNat : Int), .int .u8 (t.toNat : Int)] 5 := ⟨_, rfl⟩
      obtain ⟨ad, had⟩ : ∃ ad : Addr, ad = ⟨b, off + k, none⟩ := ⟨_, rfl⟩
      have hbl : b < wr.heap.size := hblk.old
      have x0 : (wr.alloc X).cell? ⟨wr.heap.size, 0, none⟩ = some (.int .u8 (y.toNat : Int)) := by subst hX; rw [World.cell?_alloc_new]; rfl
      have x1 : (wr.alloc X).cell? ⟨wr.heap.size, 1, none⟩ = some (.int .u8 (t.toNat : Int)) := by subst hX; rw [World.cell?_alloc_new]; rfl
      have x2 : (wr.alloc X).cell? ⟨b, off + k, none⟩ = some (.int .u8 (y.toNat : Int)) := ((((Below.refl _ wr).alloc (Nat.le_refl _) X)).cell (p := ⟨b, off + k, none⟩) hbl).trans hc0
      have x3 : (wr.alloc X).frozen? ⟨b, off + k, none⟩ = false := ((((Below.refl _ wr).alloc (Nat.le_refl _) X)).frozen (p := ⟨b, off + k, none⟩) hbl).trans hz0
      have HX := Lib.hid hX
      have HAD := Lib.hid had
      clear hX had
      go_wp2
      refine wp_draw (by kernel_rfl)
        [.slice (some ⟨b, off, none⟩) m cap, .int .i64 (k : Int), .slice (some ⟨b, off, none⟩) m cap, .int .i64 (k : Int), .pointer (some ⟨b, off + k, none⟩), .int .u8 (y.toNat : Int), .pointer (some ⟨fb, 0, none⟩), .int .u8 (c.toNat : Int),
          .string p, .int .i64 (k : Int), .int .u8 (q.toNat : Int), .int .u8 (t.toNat : Int), .slice (some ⟨wr.heap.size, 0, none⟩) 2 2, .int .u8 (z.toNat : Int), .pointer (some ⟨b, off + k, none⟩), undef]
        (Turn 12 15 (Eqv wr) (Eqv (wr.alloc X)) (Eqv ((wr.alloc X).setCell ad (.int .u8 (z.toNat : Int)))))
        rfl (by kernel_rfl) (fin := ?fin) ?hfin (Turn.start (Eqv.drew wr)) ?each ?hend
      case hfin => simp [seqA, dstOf, Act.put]; rfl
      case each =>
        refine ⟨?_, ?_, ?_, ?_, ?_, ?_, ?_, ?_, ?_, ?_, ?_, ?_, ?_, ?_, ?_, ?_, trivial⟩
        all_goals intro L w1 h0 hd hs hw
        all_goals unfold Does
        all_goals try simp only [Nat.zero_add, Nat.reduceAdd] at h0
        · go_simp; exact fun L' k => hw.same (by decide) (by decide) k
        · go_simp; exact fun L' k => hw.same (by decide) (by decide) k
        · go_simp; exact fun L' k => hw.same (by decide) (by decide) k
        · go_simp; exact fun L' k => hw.same (by decide) (by decide) k
        · go_simp; exact fun L' k => hw.same (by decide) (by decide) k
        · have hA := hw.1 (hs.no (by kernel_rfl) h0)
          have hc1 := (hA.cell ⟨b, off + k, none⟩).trans hc0
          go_simp; exact fun L' k => hw.same (by decide) (by decide) k
        · go_simp; exact fun L' k => hw.same (by decide) (by decide) k
        · go_simp; exact fun L' k => hw.same (by decide) (by decide) k
        · go_simp; exact fun L' k => hw.same (by decide) (by decide) k
        · go_simp; exact fun L' k => hw.same (by decide) (by decide) k
        · go_simp; exact fun L' k => hw.same (by decide) (by decide) k
        · have hA := hw.1 (hs.no (by kernel_rfl) h0)
          go_simp
          refine (hft w1 (hf0.only (b := b) hne (Only.eqv hA))).mono ?_
          rintro e w2 ⟨rfl, he⟩
          exact ⟨_, rfl, rfl, fun L' k => hw.keep (by decide) (by decide) k (fun h => h.trans he) (fun h => h.trans he) (fun h => h.trans he)⟩
        · have hA := hw.1 h0
          have hz := hA.size
          go_simp
          exact fun L' k => Turn.first (hs.no (by kernel_rfl) h0) (by decide) k (by rw [HX.out]; exact hA.alloc _)
        · have hB := hw.2.1 (hd 12 (by kernel_rfl)) (hs.no (by kernel_rfl) h0)
          have hc1 := (hB.cell _).trans x0
          have hc2 := (hB.cell _).trans x1
          go_simp
          refine (hat _ w1 hc1 hc2).mono ?_
          rintro e w2 ⟨rfl, rfl⟩
          exact ⟨_, rfl, rfl, fun L' k => hw.same (by decide) (by decide) k⟩
        · go_simp; exact fun L' k => hw.same (by decide) (by decide) k
        · have h12 := hd 12 (by kernel_rfl)
          have hB := hw.2.1 h12 h0
          have hc1 := (hB.cell _).trans x2
          have hc2 := (hB.frozen _).trans x3
          go_simp
          exact fun L' k => Turn.second h12 k (by rw [HAD.out]; exact hB.setCell _ _)
      case hend =>
        intro L w1 hL hw
        have hC := hw.2.2 (hL 15 (by simp))
        clear hw hL
        go_wp2
        go_roundw
        case rel =>
          refine ⟨k + 1, by rw [← ls_size]; omega, by go_num, ?_, ?_⟩
          · rw [← HN.out]
            have h1 := (hblk.below ((Below.refl _ wr).alloc (Nat.le_refl _) X)).set hr1 z
            have had := HAD.out
            subst had
            exact h1.eqv hC
          · have had := HAD.out
            subst had
            exact (hon.trans (Only.alloc b wr X)).trans ((Only.setCell _ _ _).trans (Only.eqv hC))
        case measure => simp [intOf]; omega
    · have HE := Lib.hid (show k = p.size by omega)
      go_wp2
      go_end0
      exact ⟨rfl, HE.out ▸ hblk, hon⟩
end Go.Proofs.Ytdlcloenihkkgaa
