/-
  What put of package mend answers: a text of which bytes are turned back, and where they stand. The memory that was there stays.
-/
import Derived.Test.YtdlcloenihkkgaaMendImpE
namespace Go.Proofs.Ytdlcloenihkkgaa
open Go.RowKit Go.Shelf Gf
set_option maxRecDepth 100000
/-- A slice that has these places and bytes. -/
def IsC (W : World) (a : Option Addr) (len : Nat) (l : List (UInt8 × Int)) : Prop :=
  l.length = len ∧ (0 < len → ∃ g, a = some ⟨g, 0, none⟩ ∧ g < W.heap.size ∧ ∀ i, (hi : i < l.length) → W.cell? ⟨g, i, none⟩ = some (C l[i]))
theorem OwnC.isC {w : World} {base : Nat} {v : Value} {l : List (UInt8 × Int)} (h : OwnC w base v l) : ∃ a cap, v = .slice a l.length cap ∧ IsC w a l.length l := by
  obtain ⟨a, cap, e, h2⟩ := h.cells
  exact ⟨a, cap, e, rfl, h2⟩
theorem IsC.only {W W' : World} {a : Option Addr} {len b : Nat} {l : List (UInt8 × Int)} (h : IsC W a len l) (k : Only b W W') (hb : W.heap.size ≤ b) : IsC W' a len l :=
  ⟨h.1, fun h0 => by
    obtain ⟨g, e, hg, hc⟩ := h.2 h0
    exact ⟨g, e, Nat.lt_of_lt_of_le hg k.size, fun i hi => (k.cell (p := ⟨g, i, none⟩) hg (show g ≠ b by omega)).trans (hc i hi)⟩⟩
theorem IsC.kept {W W' : World} {a : Option Addr} {len : Nat} {l : List (UInt8 × Int)} (h : IsC W a len l) (k : Keeps W W') : IsC W' a len l :=
  ⟨h.1, fun h0 => by
    obtain ⟨g, e, hg, hc⟩ := h.2 h0
    exact ⟨g, e, Nat.lt_of_lt_of_le hg (Below.size k), fun i hi => ((show Below W.heap.size W W' from k).cell (p := ⟨g, i, none⟩) hg).trans (hc i hi)⟩⟩
theorem put_append : ∀ (l m : List (UInt8 × Int)) (s : List UInt8), put s (l ++ m) = put (put s l) m
  | [], _, _ => rfl
  | q :: l, m, s => by rw [List.cons_append, put, put, put_append l m]
/-- 'v = append(v, y)', the new row's block by another name. -/
theorem wp_pushIh {ops : Array Oper} {rest : List Oper} {o : Oper} {a : Act} {Q : Exit → Act → World → Prop} {wr : World} (hgd : o.guard = none) (s x : Operand)
    (ho : o.op = .call { callee := .builtin .append, args := #[s, x], argTypes := #[22, 22] }) {base : Nat} {v : Value} {l : List Int} (y : Int) (H : Nat) (hH : wr.heap.size = H) (hown : OwnI wr base v l)
    (hs : a.eval s = v) (hx : a.eval x = .slice (some ⟨H, 0, none⟩) 1 1) (hl : l.length ≤ 1000000000) (hb : base ≤ wr.heap.size)
    (h : ∀ v' w', OwnI w' base v' (l ++ [y]) → (wr.alloc (.cells #[.int .i64 y] 3)).grownBy w' v.ownBlock → wpList Try.prog ops Q rest (a.put o.dst v') w') :
    wpList Try.prog ops Q (o :: rest) a (wr.alloc (.cells #[.int .i64 y] 3)) := by
  subst hH
  exact wp_pushIg hgd s x ho y hown hs hx hl hb h
def putRel (wB : World) (b : Nat) (s : List UInt8) (l : List (UInt8 × Int)) (v i : Value) (wr : World) : Prop :=
  ∃ k : Nat, k ≤ l.length ∧ i = .int .i64 (k : Int) ∧ Blk b (put s (l.take k)) wr ∧ OwnI wr wB.heap.size v ((l.take k).map (·.2)) ∧ Only b wB wr
def PutPost (w : World) (s : List UInt8) (l : List (UInt8 × Int)) (e : Ending) (w' : World) : Prop :=
  ∃ v, e = .returned (.tuple #[.string (st (put s l)), v]) ∧ OwnI w' w.heap.size v (l.map (·.2)) ∧ Keeps w w'
set_option maxHeartbeats 1600000 in
theorem put_any (s : ByteArray) (a : Option Addr) (len cap : Nat) (l : List (UInt8 × Int)) (w : World) (hr : IsC w a len l) (hlen : len ≤ 255) (hs : s.size = 255) (hb : ∀ q ∈ l, 0 ≤ q.2 ∧ q.2 ≤ 254) :
    Calls Try.prog 34 #[.string s, .slice a len cap] w (PutPost w (ls s) l) := by
  have hl := hr.1
  have HB := Lib.hid hb
  have HBK := Lib.hid (Blk.bytes w s)
  have HKB := Lib.hid (Lib.bytesWorld_below w 5 s)
  have HR := Lib.hid (hr.kept (Lib.bytesWorld_below w 5 s))
  have HSB := Lib.hid (show (Lib.bytesWorld w 5 s).heap.size = w.heap.size + 1 from Lib.bytesWorld_size w 5 s)
  have HLS := Lib.hid (show (ls s).length = 255 by rw [← ls_size]; exact hs)
  have HRW := Lib.hid hr
  have hcb : ∀ W : World, _ := fun W => Lib.run_convert_string_bytes (P := Try.prog) W 9 34 5 s Try.underlying9 Try.underlying34 Try.underlying5
  rw [hs] at hcb
  clear hr hb
  go_enter Try.func34, Try.ntmps34
  go_wp2
  clear hcb
  obtain ⟨c, hc⟩ : ∃ c, grownCap w 255 0 5 = c := ⟨_, rfl⟩
  have HC := Lib.hid (show 255 ≤ c by rw [← hc]; exact grownCap_ge _ _ _ _)
  obtain ⟨b, hbb⟩ : ∃ b, w.heap.size = b := ⟨_, rfl⟩
  obtain ⟨wB, hwB⟩ : ∃ wB, Lib.bytesWorld w 5 s = wB := ⟨_, rfl⟩
  rw [hbb, hwB] at HBK
  rw [hwB] at HKB HR HSB
  rw [hbb] at HSB
  rw [hc, hbb, hwB]
  clear hc hwB
  go_loopw [7, 15] (fun v i wr => putRel wB b (ls s) l v i wr) (fun _ i _ => len - (intOf i).toNat)
  case atStart => exact ⟨0, by omega, rfl, HBK.out, OwnI.nil _ _, Only.refl _ _⟩
  case round =>
    obtain ⟨k, hk, rfl, hblk, hown, hon⟩ := hrel
    rw [hl] at hk
    by_cases hlt : k < len
    · obtain ⟨g, rfl, hg, hc⟩ := (HRW.out.kept (hon.keeps HKB.out (by omega))).2 (by omega)
      have hck := hc k (by omega)
      have HT := Lib.hid (List.take_succ_eq_append_getElem (l := l) (i := k) (by omega))
      have hbd := HB.out _ (List.getElem_mem (l := l) (n := k) (by omega))
      obtain ⟨⟨y, p⟩, hq⟩ : ∃ q, l[k] = q := ⟨_, rfl⟩
      rw [hq] at hck HT hbd
      simp only at hbd
      obtain ⟨n, rfl⟩ : ∃ n : Nat, p = (n : Int) := ⟨p.toNat, by omega⟩
      have hn : n < 255 := by omega
      have hck2 : wr.cell? ⟨g, k, none⟩ = some (.complex .f64 (fl n) (fl y.toNat)) := hck
      have hf1 := ofF (n := n) (by omega)
      have hf2 := ofF8 (n := y.toNat) y.toNat_lt
      have hkl : (k : Int) < (len : Int) := by omega
      have hnl : (n : Int) < 255 := by omega
      have hpl : (put (ls s) (l.take k)).length = 255 := by rw [put_length]; exact HLS.out
      have HPN := Lib.hid (show put (ls s) (l.take (k + 1)) = (put (ls s) (l.take k)).set n (cf (put (ls s) (l.take k)) n ^^^ y) by rw [HT.out, put_append]; rfl)
      have hkm : (l.take k).length = k := by rw [List.length_take]; omega
      obtain ⟨D, hD⟩ : ∃ D, put (ls s) (l.take k) = D := ⟨_, rfl⟩
      rw [hD] at hblk hpl HPN
      have hcn := hblk.cell n (by omega)
      have HNE := Lib.hid (show b ≠ wr.heap.size by have := hblk.old; omega)
      obtain ⟨x, hx⟩ : ∃ x, cf D n = x := ⟨_, rfl⟩
      rw [hx] at hcn HPN
      have HBLK := Lib.hid hblk
      have HOW := Lib.hid hown
      have HON := Lib.hid hon
      clear hc hq hck hbd hD hx hblk hown hon
      go_wp2_with fail
      refine (add8 wr.heap.size x y _ (by rw [World.cell?_alloc_new]; rfl) (by rw [World.cell?_alloc_new]; rfl)).mono ?_
      rintro e w1 ⟨rfl, rfl⟩
      obtain ⟨z, hz⟩ : ∃ z, x ^^^ y = z := ⟨_, rfl⟩
      rw [hz] at HPN
      rw [hz]
      clear hz
      have HB1 := Lib.hid (HBLK.out.below ((Below.refl _ wr).alloc (Nat.le_refl _) (.cells #[.int .u8 (x.toNat : Int), .int .u8 (y.toNat : Int)] 5)))
      have HO1 := Lib.hid (HOW.out.kept ((Keeps.refl wr).alloc (.cells #[.int .u8 (x.toNat : Int), .int .u8 (y.toNat : Int)] 5)))
      have HN1 := Lib.hid (HON.out.trans (Only.alloc b wr (.cells #[.int .u8 (x.toNat : Int), .int .u8 (y.toNat : Int)] 5)))
      obtain ⟨w2, hw2⟩ : ∃ w2, wr.alloc (.cells #[.int .u8 (x.toNat : Int), .int .u8 (y.toNat : Int)] 5) = w2 := ⟨_, rfl⟩
      rw [hw2] at HB1 HO1 HN1
      rw [hw2]
      clear hw2 hcn hck2 hf1 hf2
      have hc2 := HB1.out.cell n (by omega)
      have hz2 := HB1.out.free n (by omega)
      have HB3 := Lib.hid (HB1.out.set (show n < D.length by omega) z)
      have HO3 := Lib.hid (HO1.out.only (Only.setCell w2 ⟨b, n, none⟩ (.int .u8 (z.toNat : Int))) (show b < wB.heap.size by have := HSB.out; omega))
      have HN3 := Lib.hid (HN1.out.trans (Only.setCell w2 ⟨b, n, none⟩ (.int .u8 (z.toNat : Int))))
      have hle2 : ((l.take k).map (·.2)).length ≤ 1000000000 := by rw [List.length_map, hkm]; omega
      have hbs := HN3.out.size
      go_wp2_with (at_builtin; refine wp_pushIh rfl _ _ rfl (n : Int) w2.heap.size (World.size_setCell _ _ _) HO3.out rfl rfl hle2 hbs ?_; intro v4 w4 hown4 hgr4)
      go_roundw
      case rel =>
        refine ⟨k + 1, by omega, by go_num, ?_, ?_, ?_⟩
        · rw [HPN.out]
          refine (HB3.out.below ((Below.refl _ _).alloc (Nat.le_refl _) _)).grown hgr4 fun e => ?_
          have := HO3.out.block _ e
          have := HSB.out
          omega
        · rw [HT.out, List.map_append]; exact hown4
        · exact (HN3.out.trans (Only.alloc b _ _)).grow hgr4 HO3.out.block
      case measure => simp [intOf]; omega
    · have hkl : (len : Int) ≤ (k : Int) := by omega
      have HE := Lib.hid (show l.take k = l from List.take_of_length_le (by omega))
      rw [HE.out] at hown hblk
      have hcv := hblk.whole c (n := 255) (by rw [put_length, HLS.out])
      go_wp2
      go_ret2
      exact ⟨_, rfl, hown.base (by have := HSB.out; omega), hon.keeps HKB.out (by omega)⟩
end Go.Proofs.Ytdlcloenihkkgaa
