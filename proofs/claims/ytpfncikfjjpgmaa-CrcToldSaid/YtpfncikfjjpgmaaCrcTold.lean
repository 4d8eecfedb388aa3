/-
  For any string, any place and any four bytes CrcTold returns true: what was sealed is opened, nothing is of which up to four bytes in a row are others, and it does not count how bytes are parted; nothing that was there is changed. No condition.
-/
import Derived.Test.YtpfncikfjjpgmaaRows
import Derived.Test.YtpfncikfjjpgmaaCrcLaw
namespace Go.Proofs.Ytpfncikfjjpgmaa.crcTold
open Go.ChangeShapes Go.WideShapes Go.ChangeAt Go.RowKit Gf Crc
set_option maxRecDepth 100000
open Go.ChangeMaps (open_string shut_string)
set_option linter.unusedVariables false
abbrev box (x0 x1 x2 x3 : UInt8) : Obj := .cells #[.int .u8 (x0.toNat : Int), .int .u8 (x1.toNat : Int), .int .u8 (x2.toNat : Int), .int .u8 (x3.toNat : Int)] 36
abbrev arg (x0 x1 x2 x3 : UInt8) : Value := .agg #[.int .u8 (x0.toNat : Int), .int .u8 (x1.toNat : Int), .int .u8 (x2.toNat : Int), .int .u8 (x3.toNat : Int)]
set_option maxHeartbeats 1600000 in
theorem off (s : ByteArray) (at' : Int) (x0 x1 x2 x3 : UInt8) (w : World) (h : ¬ s.size ≤ 600) :
    Calls Try.prog 5 #[.string s, .int .i64 at', arg x0 x1 x2 x3] w fun e w' => e = .returned (.bool true) ∧ Below w.heap.size w w' := by
  go_enter Try.func5, Try.ntmps5
  go_wp2_with fail
  refine (awake5_any w _ ((Keeps.refl w).alloc _)).mono ?_
  rintro e w9 ⟨rfl, hk9⟩
  go_wp2
  go_ret
  exact ⟨rfl, hk9⟩
theorem opn_sld (l : List UInt8) : opn (sld l) = (l, 0) := by
  rw [opn_good (by rw [sld_length]; omega) (mo_sld l), sld_length, Nat.add_sub_cancel]
  unfold sld; rw [List.take_left]
set_option maxHeartbeats 1600000 in
theorem out (s : ByteArray) (at' : Int) (x0 x1 x2 x3 : UInt8) (w : World) (h : s.size ≤ 600) (ho : at' < 0 ∨ (0 ≤ at' ∧ (s.size : Int) + 4 ≤ at')) :
    Calls Try.prog 5 #[.string s, .int .i64 at', arg x0 x1 x2 x3] w fun e w' => e = .returned (.bool true) ∧ Below w.heap.size w w' := by
  rcases ho with ho | ⟨ho, ho2⟩
  all_goals
    go_enter Try.func5, Try.ntmps5
    go_wp2_with fail
    refine (seal_any (w.alloc (box x0 x1 x2 x3)) s _ (by omega) (Keeps.refl _)).mono ?_
    rintro e w1 ⟨rfl, hk1⟩
    have hl : (st (sld (ls s))).size = s.size + 4 := by rw [st_size, sld_length, ← ls_size]
    go_wp2_with fail
    refine (open_any (w.alloc (box x0 x1 x2 x3)) _ w1 (by rw [hl]; omega) hk1).mono ?_
    rintro e w2 ⟨rfl, hk2⟩
    rw [ls_st, opn_sld, st_ls]
    obtain ⟨S, hS⟩ : ∃ S, st (sld (ls s)) = S := ⟨_, rfl⟩
    rw [hS] at hl
    rw [hS]
    clear hS
    go_wp2_with fail
    refine (awake5_any w _ (((Keeps.refl w).alloc _).trans hk2)).mono ?_
    rintro e w9 ⟨rfl, hk9⟩
    go_wp2
    go_ret
    exact ⟨rfl, hk9⟩
/-- The values of the region in which the parts' sums are asked; γ: where the second list lies. -/
def vsT (S A R : ByteArray) (a g : Nat) (q : Int) (γ : Nat) : List Value :=
  [.string S, .int .i64 (a : Int), .string A, .string S, .int .i64 (a : Int), .string R, .slice (some ⟨g, 0, none⟩) 2 2, .int .u32 0, .bool false, .bool false,
   .string S, .int .i64 (a : Int), .string A, .slice (some ⟨γ, 0, none⟩) 1 1, .int .u32 q, .string S, .int .i64 (a : Int), .string R, .int .u32 0, .bool false, .bool false]
theorem vsT_same {S A R : ByteArray} {a g : Nat} {q : Int} {γ γ' : Nat} {L : Nat → Bool} (h : L 13 = false) : ∀ j, L j = true → (vsT S A R a g q γ').getD j undef = (vsT S A R a g q γ).getD j undef
  | 0, _ => rfl
  | 1, _ => rfl
  | 2, _ => rfl
  | 3, _ => rfl
  | 4, _ => rfl
  | 5, _ => rfl
  | 6, _ => rfl
  | 7, _ => rfl
  | 8, _ => rfl
  | 9, _ => rfl
  | 10, _ => rfl
  | 11, _ => rfl
  | 12, _ => rfl
  | 13, k => by rw [h] at k; cases k
  | n + 14, _ => rfl
structure WT (w2 : World) (A R : List UInt8) (γ : Nat) (L : Nat → Bool) (W : World) : Prop where
  kp : Keeps w2 W
  sz : L 6 = false → W.heap.size = w2.heap.size
  two : L 6 = true → IsT W (some ⟨w2.heap.size, 0, none⟩) 2 [A, R]
  one : L 13 = true → IsT W (some ⟨γ, 0, none⟩) 1 [A]
theorem WT.same {w2 : World} {A R : List UInt8} {γ : Nat} {L L' : Nat → Bool} {W : World} (h : WT w2 A R γ L W) {i : Nat} (h6 : 6 ≠ i) (h13 : 13 ≠ i) (k : ∀ j, L' j = true ↔ (L j = true ∨ j = i)) : WT w2 A R γ L' W := by
  have e6 := same_at k h6
  have e13 := same_at k h13
  exact ⟨h.kp, fun x => h.sz (e6 ▸ x), fun x => h.two (e6 ▸ x), fun x => h.one (e13 ▸ x)⟩
theorem WT.on {w2 : World} {A R : List UInt8} {γ : Nat} {L L' : Nat → Bool} {W W' : World} (h : WT w2 A R γ L W) {i : Nat} (h6 : L 6 = true) (h6' : 6 ≠ i) (h13 : 13 ≠ i) (k : ∀ j, L' j = true ↔ (L j = true ∨ j = i)) (hk : Keeps W W') : WT w2 A R γ L' W' := by
  have e6 := same_at k h6'
  have e13 := same_at k h13
  exact ⟨h.kp.trans hk, (fun x => by rw [e6, h6] at x; cases x), fun x => (h.two (e6 ▸ x)).keeps hk, fun x => (h.one (e13 ▸ x)).keeps hk⟩
theorem drew_kp (w : World) : Keeps w w.drew := (Below.refl _ w).drew
def anyT (X : List UInt8) (k : Nat) : Bool := (List.range k).any fun j => cf X j != 0
theorem anyT_succ (X : List UInt8) (k : Nat) : anyT X (k + 1) = (anyT X k || (cf X k != 0)) := by
  unfold anyT; rw [List.range_succ, List.any_append]; simp
/-- The first k bytes from a on are turned. -/
def tRel (wB : World) (b a : Nat) (S X : List UInt8) (tv i : Value) (wr : World) : Prop := ∃ (k : Nat) (l : List UInt8), k ≤ 4 ∧ a + k ≤ S.length ∧ i = .int .i64 k ∧ tv = .bool (anyT X k) ∧ l.length = S.length ∧
  (∀ j, j < S.length → cf l j = if a ≤ j ∧ j < a + k then cf S j ^^^ cf X (j - a) else cf S j) ∧ Blk b l wr ∧ Only b wB wr
theorem turn_no {S X l : List UInt8} {a k : Nat} (hl : l.length = S.length) (h : ∀ j, j < S.length → cf l j = if a ≤ j ∧ j < a + k then cf S j ^^^ cf X (j - a) else cf S j) (hn : anyT X k = false) : l = S := by
  refine list_ext_cf hl fun j hj => ?_
  rw [h j (by omega)]
  by_cases e : a ≤ j ∧ j < a + k
  · rw [if_pos e]
    unfold anyT at hn
    rw [List.any_eq_false] at hn
    have := hn (j - a) (List.mem_range.2 (by omega))
    have e2 : cf X (j - a) = 0 := by simpa using this
    rw [e2, UInt8.xor_zero]
  · rw [if_neg e]
theorem turn_yes {S X l : List UInt8} {a k : Nat} (hl : l.length = S.length) (hk : k ≤ 4) (hak : a + k ≤ S.length) (h : ∀ j, j < S.length → cf l j = if a ≤ j ∧ j < a + k then cf S j ^^^ cf X (j - a) else cf S j) (hn : anyT X k = true) (hS : mo ones S = 0#32) : mo ones l ≠ 0#32 := by
  intro e0
  unfold anyT at hn
  rw [List.any_eq_true] at hn
  obtain ⟨j, hj, hx⟩ := hn
  rw [List.mem_range] at hj
  have e := mo_near ones l S hl a (fun i hi hne => by
    rw [h i (by omega)] at hne
    by_cases e : a ≤ i ∧ i < a + k
    · omega
    · rw [if_neg e] at hne; exact absurd rfl hne) (by rw [e0, hS])
  have h1 := h (a + j) (by omega)
  rw [if_pos (by omega), e, Nat.add_sub_cancel_left] at h1
  have h2 : cf X j = 0 := by
    have := congrArg (cf S (a + j) ^^^ ·) h1
    simp only [← UInt8.xor_assoc, UInt8.xor_self, UInt8.zero_xor] at this
    exact this.symm
  simp [h2] at hx
set_option maxHeartbeats 4000000 in
theorem core (s : ByteArray) (a : Nat) (x0 x1 x2 x3 : UInt8) (w : World) (h : s.size ≤ 600) (ha : a < s.size + 4) :
    Calls Try.prog 5 #[.string s, .int .i64 (a : Int), arg x0 x1 x2 x3] w fun e w' => e = .returned (.bool true) ∧ Below w.heap.size w w' := by
  go_enter Try.func5, Try.ntmps5
  go_wp2_with fail
  refine (seal_any (w.alloc (box x0 x1 x2 x3)) s _ (by omega) (Keeps.refl _)).mono ?_
  rintro e w1 ⟨rfl, hk1⟩
  have hl : (st (sld (ls s))).size = s.size + 4 := by rw [st_size, sld_length, ← ls_size]
  go_wp2_with fail
  refine (open_any (w.alloc (box x0 x1 x2 x3)) _ w1 (by rw [hl]; omega) hk1).mono ?_
  rintro e w2 ⟨rfl, hk2⟩
  rw [ls_st, opn_sld, st_ls]
  have hX : Blk w.heap.size [x0, x1, x2, x3] w2 := (Blk.lit w [x0, x1, x2, x3] 36).below hk2
  have HKW := Lib.hid (((Keeps.refl w).alloc (box x0 x1 x2 x3)).trans hk2)
  clear hk1 hk2
  obtain ⟨S, hS⟩ : ∃ S, st (sld (ls s)) = S := ⟨_, rfl⟩
  have HM := Lib.hid (show mo ones (ls S) = 0#32 by rw [← hS, ls_st, mo_sld])
  have HO := Lib.hid (show opn (ls S) = (ls s, 0) by rw [← hS, ls_st, opn_sld])
  have HSL := Lib.hid (show (ls S).length = s.size + 4 by rw [← hS, ls_st, sld_length, ← ls_size])
  rw [hS] at hl
  rw [hS]
  clear hS
  obtain ⟨X, hXe⟩ : ∃ X, [x0, x1, x2, x3] = X := ⟨_, rfl⟩
  have HXL := Lib.hid (show X.length = 4 by rw [← hXe]; rfl)
  rw [hXe] at hX
  clear hXe
  obtain ⟨xb, hxb⟩ : ∃ xb, w.heap.size = xb := ⟨_, rfl⟩
  rw [hxb] at hX
  rw [hxb]
  have HXB := Lib.hid hxb
  clear hxb
  have haS : a ≤ S.size := by omega
  obtain ⟨A, hA⟩ : ∃ A, S.extract 0 a = A := ⟨_, rfl⟩
  obtain ⟨R, hR⟩ : ∃ R, S.extract a (s.size + 4) = R := ⟨_, rfl⟩
  have HLA := Lib.hid (show ls A = (ls S).take a by rw [← hA, ls_extract]; simp)
  have HLR := Lib.hid (show ls R = (ls S).drop a by rw [← hR, ls_extract]; rw [List.take_of_length_le (by rw [List.length_drop, ← ls_size]; omega)])
  have HAR := Lib.hid (show ls A ++ ls R = ls S by rw [HLA.out, HLR.out, List.take_append_drop])
  have hAz : A.size ≤ 1000 := by rw [ls_size, HLA.out, List.length_take]; omega
  have hRz : R.size ≤ 1000 := by rw [ls_size, HLR.out, List.length_drop, ← ls_size]; omega
  have hai : (a : Int) ≤ (s.size : Int) + 4 := by omega
  have h0A : ru (mo ones [ls A, ls R].flatten) = 0 := by
    rw [show [ls A, ls R].flatten = ls S by rw [← HAR.out]; simp, HM.out]; rfl
  have h0R : ru (mo (mo ones (ls A)) (ls R)) = 0 := by rw [← mo_append, HAR.out, HM.out]; rfl
  have H0A := Lib.hid h0A
  have H0R := Lib.hid h0R
  clear h0A h0R
  go_wp2
  refine wp_draw_h (by kernel_rfl) (vsT S A R a w2.heap.size (ru (mo ones (ls A)))) (fun γ => WT w2 (ls A) (ls R) γ) rfl (by kernel_rfl) ?fin ?hfin 0 ⟨drew_kp w2, fun _ => rfl, (fun x => by cases x), (fun x => by cases x)⟩ ?each ?hend
  case hfin => intro γ; simp [vsT, seqA, dstOf, Act.put]; rfl
  case each =>
    refine ⟨?_, ?_, ?_, ?_, ?_, ?_, ?_, ?_, ?_, ?_, ?_, ?_, ?_, ?_, ?_, ?_, ?_, ?_, ?_, ?_, ?_, trivial⟩
    all_goals intro γ L w5 h0 hd hs hw
    all_goals try rw [if_pos (by rfl)]
    all_goals unfold Does
    all_goals try simp only [Nat.zero_add, Nat.reduceAdd] at h0
    · go_simp; exact Goes.on (fun _ => rfl) fun L' k => hw.same (by decide) (by decide) k
    · go_simp; exact Goes.on (fun _ => rfl) fun L' k => hw.same (by decide) (by decide) k
    · go_simp; exact Goes.on (fun _ => rfl) fun L' k => hw.same (by decide) (by decide) k
    · go_simp; exact Goes.on (fun _ => rfl) fun L' k => hw.same (by decide) (by decide) k
    · go_simp; exact Goes.on (fun _ => rfl) fun L' k => hw.same (by decide) (by decide) k
    · go_simp; exact Goes.on (fun _ => rfl) fun L' k => hw.same (by decide) (by decide) k
    · have hz := hw.sz h0
      go_simp
      refine Goes.on (fun _ => rfl) fun L' k => ⟨hw.kp.alloc _, (fun x => by rw [true_at k] at x; cases x), fun _ => ?_, fun x => (hw.one ((same_at k (show 13 ≠ 6 by decide)) ▸ x)).keeps ((Keeps.refl _).alloc _)⟩
      have := IsT.two w5 A R 9
      rwa [hz] at this
    · go_simp
      refine (sum_any w5 _ _ _ [ls A, ls R] _ (hw.two (hd 6 (by kernel_rfl))) (by simp) (by simp [← ls_size]; omega) (Keeps.refl _)).mono ?_
      rintro e w6 ⟨rfl, h6⟩
      exact ⟨_, rfl, Goes.on (fun _ => by rw [H0A.out]; rfl) fun L' k => hw.on (hd 6 (by kernel_rfl)) (by decide) (by decide) k h6⟩
    · go_simp; exact Goes.on (fun _ => rfl) fun L' k => hw.same (by decide) (by decide) k
    · go_simp; exact Goes.on (fun _ => rfl) fun L' k => hw.same (by decide) (by decide) k
    · go_simp; exact Goes.on (fun _ => rfl) fun L' k => hw.same (by decide) (by decide) k
    · go_simp; exact Goes.on (fun _ => rfl) fun L' k => hw.same (by decide) (by decide) k
    · go_simp; exact Goes.on (fun _ => rfl) fun L' k => hw.same (by decide) (by decide) k
    · have h9 := hd 9 (by kernel_rfl)
      have h8 := hs 9 8 h9 (by kernel_rfl)
      have h7 := hs 8 7 h8 (by kernel_rfl)
      have h6 := hs 7 6 h7 (by kernel_rfl)
      go_simp
      exact ⟨w5.heap.size, vsT_same h0, fun _ => rfl, fun L' k => ⟨hw.kp.alloc _, (fun x => by rw [same_at k (by decide), h6] at x; cases x), fun x => (hw.two h6).keeps ((Keeps.refl _).alloc _), fun _ => IsT.one w5 A 9⟩⟩
    · have h9 := hd 9 (by kernel_rfl)
      have h8 := hs 9 8 h9 (by kernel_rfl)
      have h7 := hs 8 7 h8 (by kernel_rfl)
      have h6 := hs 7 6 h7 (by kernel_rfl)
      go_simp
      refine (sum_any w5 _ _ _ [ls A] _ (hw.one (hd 13 (by kernel_rfl))) (by simp) (by simp [← ls_size]; omega) (Keeps.refl _)).mono ?_
      rintro e w6 ⟨rfl, hk6⟩
      exact ⟨_, rfl, Goes.on (fun _ => by rw [show [ls A].flatten = ls A by simp]; rfl) fun L' k => hw.on h6 (by decide) (by decide) k hk6⟩
    · go_simp; exact Goes.on (fun _ => rfl) fun L' k => hw.same (by decide) (by decide) k
    · go_simp; exact Goes.on (fun _ => rfl) fun L' k => hw.same (by decide) (by decide) k
    · go_simp; exact Goes.on (fun _ => rfl) fun L' k => hw.same (by decide) (by decide) k
    · have h9 := hd 9 (by kernel_rfl)
      have h8 := hs 9 8 h9 (by kernel_rfl)
      have h7 := hs 8 7 h8 (by kernel_rfl)
      have h6 := hs 7 6 h7 (by kernel_rfl)
      go_simp
      refine (more_any w5 (mo ones (ls A)) R w5 (by omega) (Keeps.refl _)).mono ?_
      rintro e w6 ⟨rfl, hk6⟩
      exact ⟨_, rfl, Goes.on (fun _ => by rw [H0R.out]; rfl) fun L' k => hw.on h6 (by decide) (by decide) k hk6⟩
    · go_simp; exact Goes.on (fun _ => rfl) fun L' k => hw.same (by decide) (by decide) k
    · go_simp; exact Goes.on (fun _ => rfl) fun L' k => hw.same (by decide) (by decide) k
  case hend =>
    intro γ L w5 hL hw
    have hkp := hw.kp
    clear hw hL
    have hX5 := hX.below hkp
    have HKV := Lib.hid (HKW.out.trans hkp)
    clear hX hkp hA hR hAz hRz HLA HLR HAR H0A H0R
    have hcb := Lib.run_convert_string_bytes (P := Try.prog) w5 9 37 5 S Try.underlying9 Try.underlying37 Try.underlying5
    rw [hl] at hcb
    have HBK := Lib.hid (Blk.bytes w5 S)
    have HKB := Lib.hid (Lib.bytesWorld_below w5 5 S)
    obtain ⟨cb, hcbE⟩ : ∃ cb, grownCap w5 (s.size + 4) 0 5 = cb := ⟨_, rfl⟩
    have hcb2 : s.size + 4 ≤ cb := by rw [← hcbE]; exact grownCap_ge _ _ _ _
    rw [hcbE] at hcb
    obtain ⟨wB, hwB⟩ : ∃ wB, Lib.bytesWorld w5 5 S = wB := ⟨_, rfl⟩
    rw [hwB] at hcb HBK HKB
    have hXB : Blk xb X wB := hX5.below HKB.out
    have hxb2 := hX5.old
    have hsz5 := Below.size HKV.out
    have HKVB := Lib.hid (HKV.out.trans HKB.out)
    clear hwB hcbE hX5
    go_wp2
    obtain ⟨b, hb⟩ : ∃ b, w5.heap.size = b := ⟨_, rfl⟩
    rw [hb] at HBK hxb2 hsz5
    rw [hb]
    clear hcb
    go_loopw [11, 12] (fun tv i wr => tRel wB b a (ls S) X tv i wr) (fun _ i _ => 4 - (intOf i).toNat)
    case atStart => exact ⟨0, ls S, by omega, by rw [HSL.out]; omega, rfl, rfl, rfl, (fun j hj => by rw [if_neg (by omega)]), HBK.out, Only.refl _ _⟩
    case round =>
      obtain ⟨k, l, hk, hak, rfl, rfl, hll, hlx, hblk, hon⟩ := hrel
      rw [HSL.out] at hak
      have hll2 : l.length = s.size + 4 := by rw [hll, HSL.out]
      by_cases hlt : k < 4 ∧ a + k < s.size + 4
      · obtain ⟨hl1, hl2⟩ := hlt
        have i1 : (k : Int) < 4 := by omega
        have i2 : (a : Int) + (k : Int) < (s.size : Int) + 4 := by omega
        obtain ⟨m, hm⟩ : ∃ m, a + k = m := ⟨_, rfl⟩
        have hml : m < l.length := by omega
        have hcr := hblk.cell m hml
        have hzr := hblk.free m hml
        have hcx := (hon.cell (p := ⟨xb, k, none⟩) hXB.old (by show xb ≠ b; omega)).trans (hXB.cell k (by rw [HXL.out]; omega))
        obtain ⟨y, hy⟩ : ∃ y, cf l m = y := ⟨_, rfl⟩
        obtain ⟨c, hc⟩ : ∃ c, cf X k = c := ⟨_, rfl⟩
        have hbx := u8_xor8 y c
        rw [hy] at hcr
        rw [hc] at hcx
        have HBL := Lib.hid (hblk.set hml (y ^^^ c))
        have HON := Lib.hid (hon.trans (Only.setCell wr ⟨b, m, none⟩ (.int .u8 ((y ^^^ c).toNat : Int))))
        have HY := Lib.hid hy
        have HC := Lib.hid hc
        have HLX := Lib.hid hlx
        have HAY := Lib.hid (anyT_succ X k)
        rw [hc] at HAY
        obtain ⟨z, hz⟩ : ∃ z, y ^^^ c = z := ⟨_, rfl⟩
        rw [hz] at hbx HBL HON
        have HZ := Lib.hid hz
        have hadd : IntKind.i64.wrap ((a : Int) + (k : Int)) = (m : Int) := by rw [← hm, IntKind.wrap_i64]; omega
        have m1 : (m : Int) < (s.size : Int) + 4 := by omega
        have HM2 := Lib.hid hm
        have hcx2 := hcx
        clear hy hc hz hblk hon hlx
        clear hm
        go_wp2
        refine wp_draw (by kernel_rfl)
          [.slice (some ⟨b, 0, none⟩) (s.size + 4) cb, .int .i64 (a : Int), .int .i64 (k : Int), .int .i64 (m : Int), .slice (some ⟨b, 0, none⟩) (s.size + 4) cb, .int .i64 (a : Int), .int .i64 (k : Int), .int .i64 (m : Int), .pointer (some ⟨b, m, none⟩), .int .u8 (y.toNat : Int),
            .int .i64 (k : Int), .pointer (some ⟨xb, k, none⟩), .int .u8 (c.toNat : Int), .int .u8 (z.toNat : Int), .pointer (some ⟨b, m, none⟩), undef]
          (Once 15 (Eqv wr) (Eqv (wr.setCell ⟨b, m, none⟩ (.int .u8 (z.toNat : Int)))))
          rfl (by kernel_rfl) (fin := ?finb) ?hfinb (Once.start (Eqv.drew wr)) ?eachb ?hendb
        case hfinb => simp [seqA, dstOf, Act.put]; rfl
        case eachb =>
          refine ⟨?_, ?_, ?_, ?_, ?_, ?_, ?_, ?_, ?_, ?_, ?_, ?_, ?_, ?_, ?_, ?_, trivial⟩
          all_goals intro L w6 h0 hd hs hw
          all_goals unfold Does
          all_goals try simp only [Nat.zero_add, Nat.reduceAdd] at h0
          · go_simp; exact fun L' k => hw.same (by decide) k
          · go_simp; exact fun L' k => hw.same (by decide) k
          · go_simp; exact fun L' k => hw.same (by decide) k
          · go_simp; exact fun L' k => hw.same (by decide) k
          · go_simp; exact fun L' k => hw.same (by decide) k
          · go_simp; exact fun L' k => hw.same (by decide) k
          · go_simp; exact fun L' k => hw.same (by decide) k
          · go_simp; exact fun L' k => hw.same (by decide) k
          · go_simp; exact fun L' k => hw.same (by decide) k
          · have hA := hw.1 (hs.no (by kernel_rfl) h0)
            have hc6 := (hA.cell ⟨b, m, none⟩).trans hcr
            go_simp; exact fun L' k => hw.same (by decide) k
          · go_simp; exact fun L' k => hw.same (by decide) k
          · go_simp; exact fun L' k => hw.same (by decide) k
          · have hA := hw.1 (hs.no (by kernel_rfl) h0)
            have hc6 := (hA.cell ⟨xb, k, none⟩).trans hcx
            go_simp; exact fun L' k => hw.same (by decide) k
          · go_simp; exact fun L' k => hw.same (by decide) k
          · go_simp; exact fun L' k => hw.same (by decide) k
          · have hA := hw.1 h0
            have hc6 := (hA.cell ⟨b, m, none⟩).trans hcr
            have hf6 := (hA.frozen ⟨b, m, none⟩).trans hzr
            go_simp
            exact fun L' k => Once.done k (hA.setCell _ _)
        case hendb =>
          intro L w6 hL hw
          have he := hw.2 (hL 15 (by simp))
          have hcz : w6.cell? ⟨xb, k, none⟩ = some (.int .u8 (c.toNat : Int)) := by
            rw [he.cell, World.cell?_setCell_other _ _ _ _ (by intro x; have := congrArg Addr.block x; simp at this; omega)]
            exact hcx
          clear hL hw hcx hcx2 hcr hzr hbx hadd
          have HR := Lib.hid (show ∀ tv, tv = (anyT X k || (c != 0)) → tRel wB b a (ls S) X (.bool tv) (.int .i64 ((k : Int) + 1)) w6 from fun tv ht => by
            refine ⟨k + 1, l.set m z, by omega, by rw [HSL.out]; omega, by go_num, by rw [HAY.out, ht], by rw [List.length_set]; exact hll, fun j hj => ?_, HBL.out.eqv he, HON.out.trans (Only.eqv he)⟩
            rw [cf_set l m z hml, HLX.out j hj]
            have hm := HM2.out
            by_cases e : j = m
            · subst e
              rw [if_pos rfl, if_pos (by omega), ← HZ.out, ← HY.out, ← HC.out, HLX.out j hj, if_neg (by omega), show j - a = k by omega]
            · rw [if_neg e]
              by_cases e2 : a ≤ j ∧ j < a + k
              · rw [if_pos e2, if_pos (by omega)]
              · rw [if_neg e2, if_neg (by omega)])
          clear HLX HBL HON HAY
          cases htv : anyT X k
          · by_cases hc0 : c = 0
            · have hcn : ((c.toNat : Int) != 0) = false := by rw [hc0]; rfl
              have HR2 := Lib.hid (HR.out false (by rw [htv, hc0]; rfl))
              go_wp2
              go_roundw
              case rel => exact HR2.out
              case measure => simp [intOf]; omega
            · have hcn : ((c.toNat : Int) != 0) = true := by
                rw [bne_iff_ne]
                intro e
                exact hc0 (UInt8.toNat_inj.1 (by rw [show (0 : UInt8).toNat = 0 from rfl]; omega))
              have HR2 := Lib.hid (HR.out true (by rw [htv]; simp [hc0]))
              go_wp2
              go_roundw
              case rel => exact HR2.out
              case measure => simp [intOf]; omega
          · have HR2 := Lib.hid (HR.out true (by rw [htv]; rfl))
            go_wp2
            go_roundw
            case rel => exact HR2.out
            case measure => simp [intOf]; omega
      · have hcv := hblk.whole cb (n := s.size + 4) hll2.symm
        have hkr := hon.keeps (w0 := w) HKVB.out (by omega)
        have hlz : (st l).size ≤ 1000 := by rw [st_size]; omega
        have HLT := Lib.hid hlt
        cases htv : anyT X k
        · have HL := Lib.hid (turn_no hll hlx htv)
          have hor : ¬ k < 4 ∨ (k < 4 ∧ ¬ a + k < s.size + 4) := by omega
          clear hblk hon hlx hlt
          rcases hor with hor | ⟨hor, hor2⟩
          all_goals
            try have i2 : (s.size : Int) + 4 ≤ (a : Int) + (k : Int) := by omega
            go_wp2_with fail
            refine (open_any w _ wr (by omega) hkr).mono ?_
            rintro e w7 ⟨rfl, hk7⟩
            rw [ls_st, HL.out, HO.out, st_ls]
            go_wp2_with fail
            refine (awake5_any w w7 hk7).mono ?_
            rintro e w9 ⟨rfl, hk9⟩
            go_wp2
            go_ret
            exact ⟨rfl, hk9⟩
        · have HL := Lib.hid (opn_bad (l := l) (by omega) (turn_yes hll hk (by rw [HSL.out]; exact hak) hlx htv HM.out))
          have hor : ¬ k < 4 ∨ (k < 4 ∧ ¬ a + k < s.size + 4) := by omega
          clear hblk hon hlx hlt
          rcases hor with hor | ⟨hor, hor2⟩
          all_goals
            try have i2 : (s.size : Int) + 4 ≤ (a : Int) + (k : Int) := by omega
            go_wp2_with fail
            refine (open_any w _ wr (by omega) hkr).mono ?_
            rintro e w7 ⟨rfl, hk7⟩
            rw [ls_st, HL.out]
            have hst := st_toList
            go_wp2_with fail
            refine (awake5_any w w7 hk7).mono ?_
            rintro e w9 ⟨rfl, hk9⟩
            go_wp2
            go_ret
            exact ⟨rfl, hk9⟩
theorem walk (s : ByteArray) (hw : s.size ≤ maxLen) (at' : Int) (ha : (Lit.int .i64 at').wf = true) (xs : List Int) (hx : xs.length = 4) (hxw : ∀ x ∈ xs, (Lit.int .u8 x).wf = true) (w : World) :
    Calls Try.prog 5 #[.string s, .int .i64 at', .agg (xs.map (.int .u8)).toArray] w fun e w' => e = .returned (.bool true) ∧ Below w.heap.size w w' := by
  match xs, hx with
  | [x0, x1, x2, x3], _ =>
    obtain ⟨x0, rfl⟩ := u8_of (bounds_u8 (hxw x0 (by simp)))
    obtain ⟨x1, rfl⟩ := u8_of (bounds_u8 (hxw x1 (by simp)))
    obtain ⟨x2, rfl⟩ := u8_of (bounds_u8 (hxw x2 (by simp)))
    obtain ⟨x3, rfl⟩ := u8_of (bounds_u8 (hxw x3 (by simp)))
    by_cases h : s.size ≤ 600
    · by_cases h1 : at' < 0
      · exact out s at' x0 x1 x2 x3 w h (.inl h1)
      · by_cases h2 : (s.size : Int) + 4 ≤ at'
        · exact out s at' x0 x1 x2 x3 w h (.inr ⟨by omega, h2⟩)
        · obtain ⟨a, rfl⟩ : ∃ a : Nat, at' = (a : Int) := ⟨at'.toNat, by omega⟩
          exact core s a x0 x1 x2 x3 w h (by omega)
    · exact off s at' x0 x1 x2 x3 w h

theorem own : ownKnob Try.prog.godebug = none := by kernel_rfl
theorem laidOut : laidOutB Try.prog = true := by kernel_rfl
set_option maxRecDepth 100000 in
theorem lifted (os : Os) (started : os.Started) (H : Type) (enc : TypeId × Value → H) :
    ReturnsInHanded {} Try.checked os 5 .any (Rows.crcToldSpec.pre6 enc Try.prog Try.f5 Rows.crcToldRow.domain false) (Rows.crcToldSpec.post enc Try.prog Try.f5 false true false false) := by
  refine returnsInHanded_of_change (C := Try.checked) own started (by kernel_rfl) Try.func5
    (ChangeSpec.witness6 (enc := enc) (C := Try.checked) false ⟨#[], #[.string ByteArray.empty, .int .i64 0, .agg #[.int .u8 0, .int .u8 0, .int .u8 0, .int .u8 0]], []⟩ 8 (by kernel_rfl) (by kernel_rfl) (by kernel_rfl) (by kernel_rfl)) ?_
  intro W base args ds gs before hval0 hW hcnd _
  have hval : ∀ (j : Nat) t v, Try.f5.params[j]? = some t → args[j]? = some v → Value.okWide Try.prog W .any base t v := hval0
  have hW' := hW
  obtain ⟨p, q, hA0, hV, rfl, hfz, hnd⟩ := hW
  have hA : DataW.TrodAll enc Try.prog W 0 (fun _ => true) true Try.f5.params.toList args.toList ds p := hA0
  rw [Try.params5] at hA hval
  obtain ⟨v0, vs0, d0, ds0, p0, q0, hargs, rfl, rfl, h0, r0⟩ := trodAll_cons hA
  obtain ⟨v1, vs1, d1, ds1, p1, q1, rfl, rfl, rfl, h1, r1⟩ := trodAll_cons r0
  obtain ⟨v2, vs2, d2, ds2, p2, q2, rfl, rfl, rfl, h2, r2⟩ := trodAll_cons r1
  obtain ⟨rfl, rfl, rfl⟩ := trodAll_nil r2
  obtain rfl : args = #[v0, v1, v2] := by cases args; simp_all
  obtain ⟨rfl, rfl⟩ := trodVars_none hV
  obtain ⟨a0, rfl, rfl, rfl, w0⟩ := open_string Try.underlying9 (hval 0 9 v0 rfl rfl) h0
  obtain ⟨a1, rfl, rfl, rfl, w1⟩ := open_int Try.underlying3 (hval 1 3 v1 rfl rfl) h1
  have k2 := h2
  have lt2 : ∀ x ∈ p2, x.block < W.heap.size := by obtain ⟨m, hm⟩ := k2; exact DataW.trod_lt m _ _ _ hm
  obtain ⟨x2, n2, rfl, wx2⟩ := open_arr Try.underlying36 Try.underlying5 (by kernel_rfl) (by kernel_rfl) (hval 2 36 v2 rfl rfl) h2
  clear hA0 hval0
  refine (walk a0 w0 a1 w1 x2 n2 wx2 W).mono fun e W' ⟨he, bel⟩ => ?_
  subst he
  exact ⟨_, rfl, _, _, _, [], _, [], hW', trodAll_mk1 (shut_bool Try.underlying4 _), (trodAll_cons_mk (shut_string Try.underlying9 w0) (trodAll_cons_mk (shut_int Try.underlying3 w1) (trodAll_cons_mk (Below.trod laidOut (by kernel_rfl) (of_decide_eq_true (by kernel_rfl)) k2 bel lt2) trodAll_mk0))), rfl, bel.frame _, fun h => by cases h⟩

theorem over : Rows.crcToldRow.holds Try.pinned (OpenSpec.ofChange Rows.crcToldSpec) :=
  OpenClaim.holds_of_wide 5 Try.f5 rfl rfl rfl rfl rfl rfl rfl ⟨rfl, rfl, rfl, rfl, rfl⟩ rfl rfl rfl rfl rfl (by kernel_rfl) Try.func5 (by kernel_rfl)
    (of_decide_eq_true (by kernel_rfl)) (by unfold Func.isWrapper; first | (rw [if_pos (by decide +kernel)]; kernel_rfl) | (rw [if_neg (by decide +kernel)]; exact ⟨rfl, rfl⟩))
    (fun os started H enc _ => lifted os started H enc)

theorem proved : Rows.CrcToldSaid := over
#print axioms proved
end Go.Proofs.Ytpfncikfjjpgmaa.crcTold
