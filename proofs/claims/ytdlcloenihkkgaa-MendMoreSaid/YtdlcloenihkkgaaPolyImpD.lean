/-
  What Add and Mul of package poly answer: for texts of up to a hundred thousand bytes; the memory that was there stays.
-/
import Derived.Test.YtdlcloenihkkgaaPolyImpC
namespace Go.Proofs.Ytdlcloenihkkgaa
open Go.RowKit Go.Shelf Gf
set_option maxRecDepth 100000

def top (L : List ByteArray) : Nat := L.foldl (fun m p => max m p.size) 0
def sizeAt (L : List ByteArray) (i : Nat) : Nat := (L.getD i ⟨#[]⟩).size
theorem top_next {L : List ByteArray} {k : Nat} (h : k < L.length) : top (L.take (k + 1)) = max (top (L.take k)) (sizeAt L k) := by
  rw [List.take_succ_eq_append_getElem h, top, List.foldl_append]
  simp only [sizeAt, List.getD_eq_getElem?_getD, List.getElem?_eq_getElem h]; rfl
theorem top_le (L : List ByteArray) (M : Nat) (h : ∀ p ∈ L, p.size ≤ M) : top L ≤ M := by
  have : ∀ (L : List ByteArray) (m : Nat), m ≤ M → (∀ p ∈ L, p.size ≤ M) → L.foldl (fun m p => max m p.size) m ≤ M := by
    intro L
    induction L with
    | nil => intro m hm _; exact hm
    | cons p L ih => intro m hm h; exact ih _ (by have := h p (by simp); show max m p.size ≤ M; omega) fun q hq => h q (by simp [hq])
  exact this L 0 (by omega) h
theorem le_top {L : List ByteArray} {p : ByteArray} (h : p ∈ L) : p.size ≤ top L := by
  have mono : ∀ (L : List ByteArray) (m : Nat), m ≤ L.foldl (fun m p => max m p.size) m := by
    intro L
    induction L with
    | nil => intro m; exact Nat.le_refl _
    | cons p L ih => intro m; exact Nat.le_trans (by omega) (ih (max m p.size))
  have : ∀ (L : List ByteArray) (m : Nat), p ∈ L → p.size ≤ L.foldl (fun m p => max m p.size) m := by
    intro L
    induction L with
    | nil => intro m h; cases h
    | cons q L ih =>
      intro m h
      rcases List.mem_cons.1 h with rfl | h
      · exact Nat.le_trans (by omega) (mono L (max m p.size))
      · exact ih _ h
  exact this L 0 h
/-- A row of texts in memory. -/
def Txt (w : World) (g : Nat) (L : List ByteArray) : Prop := ∀ i, i < L.length → w.cell? ⟨g, i, none⟩ = some (.string (L.getD i ⟨#[]⟩))
def loRel (L : List ByteArray) (m i : Value) : Prop := ∃ k : Nat, k ≤ L.length ∧ m = .int .i64 (top (L.take k) : Int) ∧ i = .int .i64 (k : Int)
set_option maxRecDepth 100000 in
set_option maxHeartbeats 1600000 in
theorem longest_any (g cap len : Nat) (L : List ByteArray) (w : World) (hlen : len = L.length) (hL : L.length ≤ 1000) (hS : ∀ p ∈ L, p.size ≤ 1000000) (ht : Txt w g L) :
    Calls Try.prog 75 #[.slice (some ⟨g, 0, none⟩) len cap] w fun e w' => e = .returned (.int .i64 (top L : Int)) ∧ w = w' := by
  have HT := Lib.hid ht
  have HS := Lib.hid hS
  clear ht hS
  go_enter Try.func75, Try.ntmps75
  go_wp2
  go_loop [3, 8] (fun m i => loRel L m i) (fun _ i => L.length - (intOf i).toNat)
  case atStart => exact ⟨0, by omega, rfl, rfl⟩
  case round =>
    obtain ⟨k, hk, rfl, rfl⟩ := hrel
    by_cases hlt : k < L.length
    · have hc := HT.out k hlt
      have hm1 : top (L.take k) ≤ 1000000 := top_le _ _ fun p hp => HS.out p (List.mem_of_mem_take hp)
      have hm2 : sizeAt L k ≤ 1000000 := by
        unfold sizeAt; rw [List.getD_eq_getElem?_getD, List.getElem?_eq_getElem hlt]; exact HS.out _ (List.getElem_mem hlt)
      have HN := Lib.hid (top_next hlt)
      have hkl : (k : Int) < (len : Int) := by omega
      unfold sizeAt at *
      generalize L.getD k ⟨#[]⟩ = p at *
      generalize top (L.take k) = m at *
      go_wp2
      go_round
      case rel => exact ⟨k + 1, by omega, by rw [HN.out]; congr 1; omega, by go_num⟩
      case measure => simp [intOf]; omega
    · have HE := Lib.hid (show L.take k = L from List.take_of_length_le (by omega))
      have hkl : (len : Int) ≤ (k : Int) := by omega
      go_wp2
      go_ret
      rw [HE.out]
      exact ⟨rfl, rfl⟩
/-- The rows that Add goes through. -/
def addAll (l : List UInt8) (L : List ByteArray) : List UInt8 := L.foldl (fun l p => atRow l 0 1 (ls p) p.size) l
theorem addAll_length (L : List ByteArray) : ∀ l : List UInt8, (addAll l L).length = l.length := by
  induction L with
  | nil => intro l; rfl
  | cons p L ih => intro l; show (addAll _ L).length = _; rw [ih, atRow_length]
theorem addAll_next {l : List UInt8} {L : List ByteArray} {k : Nat} (h : k < L.length) : addAll l (L.take (k + 1)) = atRow (addAll l (L.take k)) 0 1 (ls (L.getD k ⟨#[]⟩)) (sizeAt L k) := by
  rw [List.take_succ_eq_append_getElem h, addAll, List.foldl_append]
  simp only [sizeAt, List.getD_eq_getElem?_getD, List.getElem?_eq_getElem h]; rfl
theorem cf_whole {l p : List UInt8} {n i : Nat} (hn : n = p.length) (hi : i < l.length) : cf (atRow l 0 1 p n) i = cf l i ^^^ cf p i := by
  rw [cf_atRow hi]
  by_cases h : i < n
  · rw [if_pos (by omega), one_fm, Nat.sub_zero]
  · rw [if_neg (by omega), cf_big (p := p) (by omega)]
def sumRel (b : Nat) (l : List UInt8) (L : List ByteArray) (w : World) (i : Value) (wr : World) : Prop :=
  ∃ k : Nat, k ≤ L.length ∧ i = .int .i64 (k : Int) ∧ Blk b (addAll l (L.take k)) wr ∧ Only b w wr
theorem Txt.only {w w' : World} {g b : Nat} {L : List ByteArray} (h : Txt w g L) (hg : g < w.heap.size) (hn : g ≠ b) (k : Only b w w') : Txt w' g L := fun i hi => (k.cell (p := ⟨g, i, none⟩) hg hn).trans (h i hi)
set_option maxRecDepth 100000 in
set_option maxHeartbeats 4000000 in
theorem padd_list (w0 : World) (g cap len : Nat) (L : List ByteArray) (w : World) (hlen : len = L.length) (hL : L.length ≤ 1000) (hS : ∀ p ∈ L, p.size ≤ 1000000) (hg : g < w.heap.size) (ht : Txt w g L) (hk : Keeps w0 w) :
    Calls Try.prog 55 #[.slice (some ⟨g, 0, none⟩) len cap] w fun e w' => e = .returned (.string (st (trim (addAll (z8 (top L)) L)))) ∧ Keeps w0 w' := by
  subst hlen
  have hN := top_le L 1000000 hS
  have hTL : ∀ p ∈ L, p.size ≤ top L := fun p hp => le_top hp
  have HLA := Lib.hid (longest_any g cap _ L w rfl hL hS ht)
  generalize top L = N at *
  have hmk := make8 N hN w
  have HB := Lib.hid (Blk.make w N)
  have HS := Lib.hid hTL
  have HT := Lib.hid ht
  have HK := Lib.hid hk
  clear hTL hS ht hk
  go_enter Try.func55, Try.ntmps55
  go_wp2_with fail
  have hla := HLA.out
  refine Calls.mono hla ?_
  rintro e wz ⟨rfl, rfl⟩
  clear hla HLA
  have hb0 : w.heap.size < (w.alloc (.cells (zr N) 5)).heap.size := by simp
  go_wp2
  go_loopw [12] (fun i wr => sumRel w.heap.size (z8 N) L (w.alloc (.cells (zr N) 5)) i wr) (fun i _ => L.length - (intOf i).toNat)
  case atStart => exact ⟨0, by omega, rfl, HB.out, Only.refl _ _⟩
  case round =>
    obtain ⟨k, hk, rfl, hblk, hon⟩ := hrel
    by_cases hlt : k < L.length
    · have hkl : (k : Int) < (L.length : Int) := by omega
      have hc := HT.out k hlt
      have hc2 : wr.cell? ⟨g, k, none⟩ = some (.string (L.getD k ⟨#[]⟩)) := by
        rw [hon.cell (p := ⟨g, k, none⟩) (by simp; omega) (by show g ≠ w.heap.size; omega)]
        exact cell_alloc1 _ hc
      have hps : (L.getD k ⟨#[]⟩).size ≤ N := by
        rw [List.getD_eq_getElem?_getD, List.getElem?_eq_getElem hlt]; exact HS.out _ (List.getElem_mem hlt)
      have HN := Lib.hid (addAll_next (l := z8 N) hlt)
      have hll := addAll_length (L.take k) (z8 N)
      rw [show (z8 N).length = N from List.length_replicate] at hll
      unfold sizeAt at HN
      generalize L.getD k ⟨#[]⟩ = p at *
      generalize addAll (z8 N) (L.take k) = l at *
      clear hc
      have hls : (ls p).length = p.size := (ls_size p).symm
      have HLS := Lib.hid hls
      clear hls
      generalize hbb : w.heap.size = b at *
      have HBB := Lib.hid hbb
      clear hbb
      go_wp2
      go_loopw [18] (fun i w2 => tiRel b l 0 1 (ls p) wr i w2) (fun i _ => p.size - (intOf i).toNat)
      case atStart => exact ⟨0, by omega, rfl, by rw [atRow_zero]; exact hblk, Only.refl _ _⟩
      case round =>
        clear hblk
        rename_i ws _ _ _ _ _ _ _ _ _ _ _ _ _ _ _ _ _ _ _ _
        obtain ⟨j, hj, rfl, hblk, hon2⟩ := hrel
        rw [HLS.out] at hj
        by_cases hjp : j < p.size
        · have hgt := ls_get p j hjp
          have hr1 : j < (atRow l 0 1 (ls p) j).length := by rw [atRow_length]; omega
          have hc0 := hblk.cell j hr1
          have hz0 := hblk.free j hr1
          have HN2 := Lib.hid (atRow_succ (l := l) (off := 0) (c := 1) (p := ls p) (k := j) (by omega))
          rw [Nat.zero_add, one_fm] at HN2
          generalize hr : atRow l 0 1 (ls p) j = r at *
          generalize hy : cf r j = y at *
          generalize hq : cf (ls p) j = t at *
          generalize hz : y ^^^ t = z at *
          have hat : ∀ (g : Nat) (W : World), W.cell? ⟨g, 0, none⟩ = some (.int .u8 (y.toNat : Int)) → W.cell? ⟨g, 1, none⟩ = some (.int .u8 (t.toNat : Int)) → Calls Try.prog 56 #[.slice (some ⟨g, 0, none⟩) 2 2] W fun e w' => e = .returned (.int .u8 (z.toNat : Int)) ∧ W = w' := fun g W h k => by rw [← hz]; exact add8 g y t W h k
          have HZ := Lib.hid hz
          clear hz
          have kI : (j : Int) < (N : Int) := by omega
          have kP : (j : Int) < (p.size : Int) := by omega
          obtain ⟨X, hX⟩ : ∃ X : Obj, X = .cells #[.int .u8 (y.toNat : Int), .int .u8 (t.toNat : Int)] 5 := ⟨_, rfl⟩
          obtain ⟨ad, had⟩ : ∃ ad : Addr, ad = ⟨b, j, none⟩ := ⟨_, rfl⟩
          have hbl : b < wr.heap.size := hblk.old
          have x0 : (wr.alloc X).cell? ⟨wr.heap.size, 0, none⟩ = some (.int .u8 (y.toNat : Int)) := by subst hX; rw [World.cell?_alloc_new]; rfl
          have x1 : (wr.alloc X).cell? ⟨wr.heap.size, 1, none⟩ = some (.int .u8 (t.toNat : Int)) := by subst hX; rw [World.cell?_alloc_new]; rfl
          have x2 : (wr.alloc X).cell? ⟨b, j, none⟩ = some (.int .u8 (y.toNat : Int)) := ((((Below.refl _ wr).alloc (Nat.le_refl _) X)).cell (p := ⟨b, j, none⟩) hbl).trans hc0
          have x3 : (wr.alloc X).frozen? ⟨b, j, none⟩ = false := ((((Below.refl _ wr).alloc (Nat.le_refl _) X)).frozen (p := ⟨b, j, none⟩) hbl).trans hz0
          have HX := Lib.hid hX
          have HAD := Lib.hid had
          clear hX had
          go_wp2
          refine wp_draw (by kernel_rfl)
            [.slice (some ⟨b, 0, none⟩) N N, .int .i64 (j : Int), .slice (some ⟨b, 0, none⟩) N N, .int .i64 (j : Int), .pointer (some ⟨b, j, none⟩), .int .u8 (y.toNat : Int),
              .string p, .int .i64 (j : Int), .int .u8 (t.toNat : Int), .slice (some ⟨wr.heap.size, 0, none⟩) 2 2, .int .u8 (z.toNat : Int), .pointer (some ⟨b, j, none⟩), undef]
            (Turn 9 12 (Eqv wr) (Eqv (wr.alloc X)) (Eqv ((wr.alloc X).setCell ad (.int .u8 (z.toNat : Int)))))
            rfl (by kernel_rfl) (fin := ?fin) ?hfin (Turn.start (Eqv.drew wr)) ?each ?hend
          case hfin => simp [seqA, dstOf, Act.put]; rfl
          case each =>
            refine ⟨?_, ?_, ?_, ?_, ?_, ?_, ?_, ?_, ?_, ?_, ?_, ?_, ?_, trivial⟩
            all_goals intro L w1 h0 hd hs hw
            all_goals unfold Does
            all_goals try simp only [Nat.zero_add, Nat.reduceAdd] at h0
            · go_simp; exact fun L' k => hw.same (by decide) (by decide) k
            · go_simp; exact fun L' k => hw.same (by decide) (by decide) k
            · go_simp; exact fun L' k => hw.same (by decide) (by decide) k
            · go_simp; exact fun L' k => hw.same (by decide) (by decide) k
            · go_simp; exact fun L' k => hw.same (by decide) (by decide) k
            · have hA := hw.1 (hs.no (by kernel_rfl) h0)
              have hc1 := (hA.cell ⟨b, j, none⟩).trans hc0
              go_simp; exact fun L' k => hw.same (by decide) (by decide) k
            · go_simp; exact fun L' k => hw.same (by decide) (by decide) k
            · go_simp; exact fun L' k => hw.same (by decide) (by decide) k
            · go_simp; exact fun L' k => hw.same (by decide) (by decide) k
            · have hA := hw.1 h0
              have hz := hA.size
              go_simp
              exact fun L' k => Turn.first (hs.no (by kernel_rfl) h0) (by decide) k (by rw [HX.out]; exact hA.alloc _)
            · have hB := hw.2.1 (hd 9 (by kernel_rfl)) (hs.no (by kernel_rfl) h0)
              have hc1 := (hB.cell _).trans x0
              have hc2 := (hB.cell _).trans x1
              go_simp
              refine (hat _ w1 hc1 hc2).mono ?_
              rintro e w2 ⟨rfl, rfl⟩
              exact ⟨_, rfl, rfl, fun L' k => hw.same (by decide) (by decide) k⟩
            · go_simp; exact fun L' k => hw.same (by decide) (by decide) k
            · have h12 := hd 9 (by kernel_rfl)
              have hB := hw.2.1 h12 h0
              have hc1 := (hB.cell _).trans x2
              have hc2 := (hB.frozen _).trans x3
              go_simp
              exact fun L' k => Turn.second h12 k (by rw [HAD.out]; exact hB.setCell _ _)
          case hend =>
            intro L w1 hL hw
            have hC := hw.2.2 (hL 12 (by simp))
            clear hw hL
            go_wp2
            go_roundw
            case rel =>
              refine ⟨j + 1, by rw [HLS.out]; omega, by go_num, ?_, ?_⟩
              · rw [← HN2.out]
                have h1 := (hblk.below ((Below.refl _ wr).alloc (Nat.le_refl _) X)).set hr1 z
                have had := HAD.out
                subst had
                exact h1.eqv hC
              · have had := HAD.out
                subst had
                exact (hon2.trans (Only.alloc b wr X)).trans ((Only.setCell _ _ _).trans (Only.eqv hC))
            case measure => simp [intOf]; omega
        · have hjl : (p.size : Int) ≤ (j : Int) := by omega
          have HE := Lib.hid (show j = p.size by omega)
          go_wp2
          go_roundw
          case rel =>
            have e := HE.out
            subst e
            have hbb := HBB.out
            subst hbb
            exact ⟨k + 1, by omega, by go_num, by rw [HN.out]; exact hblk, hon.trans hon2⟩
          case measure => simp [intOf]; omega
    · have HE := Lib.hid (show L.take k = L from List.take_of_length_le (by omega))
      have hkl : (L.length : Int) ≤ (k : Int) := by omega
      have hcv := hblk.whole N (n := N) (by rw [addAll_length]; exact List.length_replicate.symm)
      have hq : (st (addAll (z8 N) (L.take k))).size ≤ 1000000 := by rw [st_size, addAll_length, show (z8 N).length = N from List.length_replicate]; exact hN
      have HL := Lib.hid (show trim (ls (st (addAll (z8 N) (L.take k)))) = trim (addAll (z8 N) L) by rw [ls_st, HE.out])
      have HKk := Lib.hid (hon.keeps (HK.out.alloc _) (Below.size HK.out))
      generalize st (addAll (z8 N) (L.take k)) = q at *
      go_wp2_with fail
      refine (ptrim_big w0 _ _ hq HKk.out).mono ?_
      rintro e wz ⟨rfl, hkz⟩
      rw [HL.out]
      go_wp2
      go_ret
      exact ⟨rfl, hkz⟩
end Go.Proofs.Ytdlcloenihkkgaa
