/-
  The document's table: Right, New, first and Out. The memory that was there stays.
-/
import Derived.Test.YtpkidopnkofccaaTbOut
namespace Go.Proofs.Ytpkidopnkofccaa
open Go.RowKit Gf
set_option maxRecDepth 100000
theorem rtright_any (r : Int) (b : Bool) (h : decide (okR r) = b) (w : World) : Calls Try.prog 6 #[.int .i64 r] w fun e w' => e = .returned (.bool b) ∧ w = w' := by
  subst h
  by_cases hr : okR r
  · rw [decide_eq_true hr]
    rcases hr with rfl | rfl | rfl | rfl
    all_goals
      go_enter Try.func6, Try.ntmps6
      go_wp2
      go_ret
      exact ⟨rfl, rfl⟩
  · rw [decide_eq_false hr]
    unfold okR at hr
    have h1 : (r == 256) = false := by rw [beq_eq_false_iff_ne]; omega
    have h2 : (r == 512) = false := by rw [beq_eq_false_iff_ne]; omega
    have h3 : (r == 768) = false := by rw [beq_eq_false_iff_ne]; omega
    have h4 : (r == 1024) = false := by rw [beq_eq_false_iff_ne]; omega
    clear hr
    go_enter Try.func6, Try.ntmps6
    go_wp2
    go_ret
    exact ⟨rfl, rfl⟩
/-- Rows of bools. -/
def rowBo : RowT Bool where
  E := 4
  S := 41
  sz := 1
  bs := 1
  z := .bool false
  enc := fun t => [.bool t]
  und := Try.underlying41
  info := by kernel_rfl
  zs := rfl
  pos := by decide
  small := by decide
  len := fun _ => rfl
  one := fun a u hu => by rw [List.mem_singleton.1 hu]; rfl
theorem makeBo (n : Nat) (h : n ≤ 1000000) (w : World) :
    (Instr.makeSlice 41 (.int .i64 (n : Int)) (.int .i64 (n : Int))).run Try.prog w = .ok (sl0 w.heap.size n) (w.alloc (.cells (madeCells #[.bool false] n) 4)) := by
  have := makeE rowBo n h w
  rw [show n * rowBo.sz = n from Nat.mul_one n] at this
  exact this
def vsN (R n5 n1 : Nat) (γ : Nat × Nat × Nat × Nat) : List Value :=
  [.int .i64 (R : Int), .int .i64 (R : Int), .int .i64 (n5 : Int), sl0 γ.1 n5, .int .i64 (R : Int), .int .i64 (n5 : Int), sl0 γ.2.1 n5, .int .i64 (R : Int), .int .i64 (n1 : Int), sl0 γ.2.2.1 n1, .agg #[.int .i64 (R : Int), sl0 γ.1 n5, sl0 γ.2.1 n5, sl0 γ.2.2.1 n1], .pointer (some ⟨γ.2.2.2, 0, none⟩), .pointer (some ⟨γ.2.2.2, 0, none⟩)]
theorem vsN_a {R n5 n1 g : Nat} {γ : Nat × Nat × Nat × Nat} {L : Nat → Bool} (h : L 3 = false) (h10 : L 10 = false) : ∀ j, L j = true → (vsN R n5 n1 (g, γ.2)).getD j undef = (vsN R n5 n1 γ).getD j undef
  | 0, _ | 1, _ | 2, _ | 4, _ | 5, _ | 6, _ | 7, _ | 8, _ | 9, _ | 11, _ | 12, _ => rfl
  | 3, k => by rw [h] at k; cases k
  | 10, k => by rw [h10] at k; cases k
  | _ + 13, _ => rfl
theorem vsN_b {R n5 n1 g : Nat} {γ : Nat × Nat × Nat × Nat} {L : Nat → Bool} (h : L 6 = false) (h10 : L 10 = false) : ∀ j, L j = true → (vsN R n5 n1 (γ.1, g, γ.2.2)).getD j undef = (vsN R n5 n1 γ).getD j undef
  | 0, _ | 1, _ | 2, _ | 3, _ | 4, _ | 5, _ | 7, _ | 8, _ | 9, _ | 11, _ | 12, _ => rfl
  | 6, k => by rw [h] at k; cases k
  | 10, k => by rw [h10] at k; cases k
  | _ + 13, _ => rfl
theorem vsN_c {R n5 n1 g : Nat} {γ : Nat × Nat × Nat × Nat} {L : Nat → Bool} (h : L 9 = false) (h10 : L 10 = false) : ∀ j, L j = true → (vsN R n5 n1 (γ.1, γ.2.1, g, γ.2.2.2)).getD j undef = (vsN R n5 n1 γ).getD j undef
  | 0, _ | 1, _ | 2, _ | 3, _ | 4, _ | 5, _ | 6, _ | 7, _ | 8, _ | 11, _ | 12, _ => rfl
  | 9, k => by rw [h] at k; cases k
  | 10, k => by rw [h10] at k; cases k
  | _ + 13, _ => rfl
theorem vsN_d {R n5 n1 g : Nat} {γ : Nat × Nat × Nat × Nat} {L : Nat → Bool} (h : L 11 = false) (h12 : L 12 = false) : ∀ j, L j = true → (vsN R n5 n1 (γ.1, γ.2.1, γ.2.2.1, g)).getD j undef = (vsN R n5 n1 γ).getD j undef
  | 0, _ | 1, _ | 2, _ | 3, _ | 4, _ | 5, _ | 6, _ | 7, _ | 8, _ | 9, _ | 10, _ => rfl
  | 11, k => by rw [h] at k; cases k
  | 12, k => by rw [h12] at k; cases k
  | _ + 13, _ => rfl
theorem BlF.keeps {b n : Nat} {v : Nat → Value} {w w' : World} (h : BlF b n v w) (k : Keeps w w') : BlF b n v w' := h.block (Below.block k b h.old) (Below.size k)
structure NR (w : World) (R n5 n1 : Nat) (γ : Nat × Nat × Nat × Nat) (L : Nat → Bool) (W : World) : Prop where
  kp : Keeps w W
  o3 : L 3 = true → BlF γ.1 n5 (fun _ => u8V 0) W ∧ w.heap.size ≤ γ.1
  o6 : L 6 = true → BlF γ.2.1 n5 (fun _ => .bool false) W ∧ w.heap.size ≤ γ.2.1
  o9 : L 9 = true → BlF γ.2.2.1 n1 (fun _ => .bool false) W ∧ w.heap.size ≤ γ.2.2.1
  d36 : L 3 = true → L 6 = true → γ.1 ≠ γ.2.1
  d39 : L 3 = true → L 9 = true → γ.1 ≠ γ.2.2.1
  d69 : L 6 = true → L 9 = true → γ.2.1 ≠ γ.2.2.1
  o11 : L 11 = true → CsAt γ.2.2.2 [.int .i64 (R : Int), sl0 γ.1 n5, sl0 γ.2.1 n5, sl0 γ.2.2.1 n1] W ∧ w.heap.size ≤ γ.2.2.2 ∧ γ.2.2.2 ≠ γ.1 ∧ γ.2.2.2 ≠ γ.2.1 ∧ γ.2.2.2 ≠ γ.2.2.1
theorem NR.same {w : World} {R n5 n1 : Nat} {γ : Nat × Nat × Nat × Nat} {L L' : Nat → Bool} {W : World} (h : NR w R n5 n1 γ L W) {i : Nat} (h3 : 3 ≠ i) (h6 : 6 ≠ i) (h9 : 9 ≠ i) (h11 : 11 ≠ i) (k : ∀ j, L' j = true ↔ (L j = true ∨ j = i)) : NR w R n5 n1 γ L' W :=
  ⟨h.kp, fun x => h.o3 (same_at k h3 ▸ x), fun x => h.o6 (same_at k h6 ▸ x), fun x => h.o9 (same_at k h9 ▸ x), fun x y => h.d36 (same_at k h3 ▸ x) (same_at k h6 ▸ y), fun x y => h.d39 (same_at k h3 ▸ x) (same_at k h9 ▸ y), fun x y => h.d69 (same_at k h6 ▸ x) (same_at k h9 ▸ y), fun x => h.o11 (same_at k h11 ▸ x)⟩
theorem shut_no {ops : Array Oper} {L : Nat → Bool} (h : Shut ops L) {i j : Nat} (hw : waits ops j i = true) (hi : L i = false) : L j = false := h.no hw hi
def RtNewPost (w : World) (R : Nat) (e : Ending) (w' : World) : Prop := ∃ x bb bi bs, e = .returned (.pointer (some ⟨x, 0, none⟩)) ∧ RtIn (fun k => k = x ∨ k = bb ∨ k = bi ∨ k = bs) x bb bi bs (tb0 R) w' ∧ Keeps w w' ∧ w.heap.size ≤ x ∧ w.heap.size ≤ bb ∧ w.heap.size ≤ bi ∧ w.heap.size ≤ bs
set_option maxHeartbeats 1600000 in
theorem rtnew_any {R : Nat} (h : okR (R : Int)) (w : World) : Calls Try.prog 9 #[.int .i64 (R : Int)] w (RtNewPost w R) := by
  have hr : R ≤ 1024 := by unfold okR at h; omega
  obtain ⟨n5, h5⟩ : ∃ n, 255 * R = n := ⟨_, rfl⟩
  obtain ⟨n1, h1⟩ : ∃ n, 191 * R = n := ⟨_, rfl⟩
  have e5 : 255 * (R : Int) = (n5 : Int) := by omega
  have e1 : 191 * (R : Int) = (n1 : Int) := by omega
  have m5 := fun W => make8 n5 (by omega) W
  have b5 := fun W => makeBo n5 (by omega) W
  have b1 := fun W => makeBo n1 (by omega) W
  have hM5 := Lib.hid (fun W => BlF.made W (u8V 0) n5 5)
  have hB5 := Lib.hid (fun W => BlF.made W (.bool false) n5 4)
  have hB1 := Lib.hid (fun W => BlF.made W (.bool false) n1 4)
  obtain ⟨c5, hc5⟩ : ∃ c, zr n5 = c := ⟨_, rfl⟩
  obtain ⟨d5, hd5⟩ : ∃ c, madeCells #[Value.bool false] n5 = c := ⟨_, rfl⟩
  obtain ⟨d1, hd1⟩ : ∃ c, madeCells #[Value.bool false] n1 = c := ⟨_, rfl⟩
  have hc5' : madeCells #[u8V 0] n5 = c5 := by rw [← hc5]; rfl
  rw [hc5] at m5
  rw [hd5] at b5 hB5
  rw [hd1] at b1 hB1
  rw [hc5'] at hM5
  have wr1 := wrapI (a := (n5 : Int)) (by omega) (by omega)
  have wr2 := wrapI (a := (n1 : Int)) (by omega) (by omega)
  have HOK := Lib.hid h
  have H5 := Lib.hid h5
  have H1 := Lib.hid h1
  clear h h5 h1 hc5 hc5' hd5 hd1 hr
  go_enter Try.func9, Try.ntmps9
  go_wp2
  refine wp_draw_h (Γ := Nat × Nat × Nat × Nat) (by kernel_rfl) (vsN R n5 n1) (fun γ => NR w R n5 n1 γ) rfl (by kernel_rfl) ?fin ?hfin (0, 0, 0, 0)
    ⟨(Keeps.refl w).eqv (Eqv.drew w), (fun x => by cases x), (fun x => by cases x), (fun x => by cases x), (fun x => by cases x), (fun x => by cases x), (fun x => by cases x), (fun x => by cases x)⟩ ?each ?hend
  case hfin => intro γ; simp [vsN, seqA, dstOf, Act.put]; rfl
  case each =>
    refine ⟨?_, ?_, ?_, ?_, ?_, ?_, ?_, ?_, ?_, ?_, ?_, ?_, ?_, trivial⟩
    all_goals intro γ L w5 h0 hd hs hw
    all_goals unfold Does
    all_goals try simp only [Nat.zero_add, Nat.reduceAdd] at h0
    all_goals go_simp
    all_goals try exact Goes.on (fun _ => rfl) fun L' k => hw.same (by decide) (by decide) (by decide) (by decide) k
    · have h10 := shut_no hs (i := 3) (j := 10) (by kernel_rfl) h0
      refine ⟨(w5.heap.size, γ.2), vsN_a h0 h10, fun _ => rfl, fun L' k => ?_⟩
      have ka : Keeps w5 (w5.alloc (.cells c5 5)) := (Keeps.refl w5).alloc _
      have n11 : L' 11 = true → False := fun x => by
        have y := shut_no hs (i := 10) (j := 11) (by kernel_rfl) h10
        rw [same_at k (show 11 ≠ 3 by decide)] at x; rw [y] at x; cases x
      refine ⟨hw.kp.trans ka, fun _ => ⟨hM5.out w5, Below.size hw.kp⟩, fun x => ⟨(hw.o6 (same_at k (show 6 ≠ 3 by decide) ▸ x)).1.keeps ka, (hw.o6 (same_at k (show 6 ≠ 3 by decide) ▸ x)).2⟩, fun x => ⟨(hw.o9 (same_at k (show 9 ≠ 3 by decide) ▸ x)).1.keeps ka, (hw.o9 (same_at k (show 9 ≠ 3 by decide) ▸ x)).2⟩, fun _ x => ?_, fun _ x => ?_, fun x y => hw.d69 (same_at k (show 6 ≠ 3 by decide) ▸ x) (same_at k (show 9 ≠ 3 by decide) ▸ y), fun x => (n11 x).elim⟩
      · exact Nat.ne_of_gt (hw.o6 (same_at k (show 6 ≠ 3 by decide) ▸ x)).1.old
      · exact Nat.ne_of_gt (hw.o9 (same_at k (show 9 ≠ 3 by decide) ▸ x)).1.old
    · have h10 := shut_no hs (i := 6) (j := 10) (by kernel_rfl) h0
      refine ⟨(γ.1, w5.heap.size, γ.2.2), vsN_b h0 h10, fun _ => rfl, fun L' k => ?_⟩
      have ka : Keeps w5 (w5.alloc (.cells d5 4)) := (Keeps.refl w5).alloc _
      have n11 : L' 11 = true → False := fun x => by
        have y := shut_no hs (i := 10) (j := 11) (by kernel_rfl) h10
        rw [same_at k (show 11 ≠ 6 by decide)] at x; rw [y] at x; cases x
      refine ⟨hw.kp.trans ka, fun x => ⟨(hw.o3 (same_at k (show 3 ≠ 6 by decide) ▸ x)).1.keeps ka, (hw.o3 (same_at k (show 3 ≠ 6 by decide) ▸ x)).2⟩, fun _ => ⟨hB5.out w5, Below.size hw.kp⟩, fun x => ⟨(hw.o9 (same_at k (show 9 ≠ 6 by decide) ▸ x)).1.keeps ka, (hw.o9 (same_at k (show 9 ≠ 6 by decide) ▸ x)).2⟩, fun x _ => ?_, fun x y => hw.d39 (same_at k (show 3 ≠ 6 by decide) ▸ x) (same_at k (show 9 ≠ 6 by decide) ▸ y), fun _ x => ?_, fun x => (n11 x).elim⟩
      · exact Nat.ne_of_lt (hw.o3 (same_at k (show 3 ≠ 6 by decide) ▸ x)).1.old
      · exact Nat.ne_of_gt (hw.o9 (same_at k (show 9 ≠ 6 by decide) ▸ x)).1.old
    · have h10 := shut_no hs (i := 9) (j := 10) (by kernel_rfl) h0
      refine ⟨(γ.1, γ.2.1, w5.heap.size, γ.2.2.2), vsN_c h0 h10, fun _ => rfl, fun L' k => ?_⟩
      have ka : Keeps w5 (w5.alloc (.cells d1 4)) := (Keeps.refl w5).alloc _
      have n11 : L' 11 = true → False := fun x => by
        have y := shut_no hs (i := 10) (j := 11) (by kernel_rfl) h10
        rw [same_at k (show 11 ≠ 9 by decide)] at x; rw [y] at x; cases x
      refine ⟨hw.kp.trans ka, fun x => ⟨(hw.o3 (same_at k (show 3 ≠ 9 by decide) ▸ x)).1.keeps ka, (hw.o3 (same_at k (show 3 ≠ 9 by decide) ▸ x)).2⟩, fun x => ⟨(hw.o6 (same_at k (show 6 ≠ 9 by decide) ▸ x)).1.keeps ka, (hw.o6 (same_at k (show 6 ≠ 9 by decide) ▸ x)).2⟩, fun _ => ⟨hB1.out w5, Below.size hw.kp⟩, fun x y => hw.d36 (same_at k (show 3 ≠ 9 by decide) ▸ x) (same_at k (show 6 ≠ 9 by decide) ▸ y), fun x _ => ?_, fun x _ => ?_, fun x => (n11 x).elim⟩
      · exact Nat.ne_of_lt (hw.o3 (same_at k (show 3 ≠ 9 by decide) ▸ x)).1.old
      · exact Nat.ne_of_lt (hw.o6 (same_at k (show 6 ≠ 9 by decide) ▸ x)).1.old
    · have h12 := shut_no hs (i := 11) (j := 12) (by kernel_rfl) h0
      have g10 := hd 10 (by kernel_rfl)
      have g3 := hs 10 3 g10 (by kernel_rfl)
      have g6 := hs 10 6 g10 (by kernel_rfl)
      have g9 := hs 10 9 g10 (by kernel_rfl)
      have a3 := hw.o3 g3
      have a6 := hw.o6 g6
      have a9 := hw.o9 g9
      refine ⟨(γ.1, γ.2.1, γ.2.2.1, w5.heap.size), vsN_d h0 h12, fun _ => rfl, fun L' k => ?_⟩
      have ka : ∀ o, Keeps w5 (w5.alloc o) := fun o => (Keeps.refl w5).alloc o
      exact ⟨hw.kp.trans (ka _), fun _ => ⟨a3.1.keeps (ka _), a3.2⟩, fun _ => ⟨a6.1.keeps (ka _), a6.2⟩, fun _ => ⟨a9.1.keeps (ka _), a9.2⟩, fun _ _ => hw.d36 g3 g6, fun _ _ => hw.d39 g3 g9, fun _ _ => hw.d69 g6 g9,
        fun _ => ⟨CsAt.made w5 #[.int .i64 (R : Int), sl0 γ.1 n5, sl0 γ.2.1 n5, sl0 γ.2.2.1 n1] _ (by simp), Below.size hw.kp, Nat.ne_of_gt a3.1.old, Nat.ne_of_gt a6.1.old, Nat.ne_of_gt a9.1.old⟩⟩
  case hend =>
    intro γ L w6 hL hw
    have a3 := hw.o3 (hL 3 (by decide))
    have a6 := hw.o6 (hL 6 (by decide))
    have a9 := hw.o9 (hL 9 (by decide))
    have a11 := hw.o11 (hL 11 (by decide))
    have HD := Lib.hid (⟨hw.d36 (hL 3 (by decide)) (hL 6 (by decide)), hw.d39 (hL 3 (by decide)) (hL 9 (by decide)), hw.d69 (hL 6 (by decide)) (hL 9 (by decide))⟩ : γ.1 ≠ γ.2.1 ∧ γ.1 ≠ γ.2.2.1 ∧ γ.2.1 ≠ γ.2.2.1)
    have HA := Lib.hid (⟨a3, a6, a9, a11, hw.kp⟩ : _ ∧ _ ∧ _ ∧ _ ∧ _)
    clear hL hw a3 a6 a9 a11
    go_wp2
    go_ret
    obtain ⟨a3, a6, a9, a11, hk⟩ := HA.out
    obtain ⟨d36, d39, d69⟩ := HD.out
    refine ⟨γ.2.2.2, γ.1, γ.2.1, γ.2.2.1, rfl, ⟨tb0_ok HOK.out, ?_, ?_, ?_, ?_, ⟨.inl rfl, .inr (.inl rfl), .inr (.inr (.inl rfl)), .inr (.inr (.inr rfl))⟩, ⟨⟨a11.2.2.1, a11.2.2.2.1, a11.2.2.2.2⟩, ⟨d36, d39⟩, d69⟩, ?_⟩, hk, a11.2.1, a3.2, a6.2, a9.2⟩
    · show CsAt _ [.int .i64 (R : Int), sl0 γ.1 (255 * R), sl0 γ.2.1 (255 * R), sl0 γ.2.2.1 (191 * R)] _
      rw [H5.out, H1.out]; exact a11.1
    · show BlF _ (255 * R) (fun _ => u8V 0) _
      rw [H5.out]; exact a3.1
    · show BlF _ (255 * R) (fun _ => .bool false) _
      rw [H5.out]; exact a6.1
    · show BlF _ (191 * R) (fun _ => .bool false) _
      rw [H1.out]; exact a9.1
    · rintro k (rfl | rfl | rfl | rfl)
      · exact a11.1.old
      · exact a3.1.old
      · exact a6.1.old
      · exact a9.1.old
theorem BlF.text {b n : Nat} {f : Nat → UInt8} {w : World} (h : BlF b n (fun i => u8V (f i)) w) (o len cap : Nat) (hl : o + len ≤ n) :
    (convert 40 9 (.slice (some ⟨b, o, none⟩) len cap)).run Try.prog w = .ok (.string (st ((List.range len).map fun i => f (o + i)))) w := by
  have e := run_convert_bytes_arg (P := Try.prog) w 40 5 Try.underlying40 Try.underlying5 b o len cap (((List.range len).map fun i => f (o + i)).map fun x => (x.toNat : Int)) (by simp) (fun i hi => by
      show w.cell? ⟨b, o + i, none⟩ = _
      rw [h.cell (o + i) (by omega), List.getD_eq_getElem?_getD, List.getElem?_map, List.getElem?_map, List.getElem?_range hi]; rfl) 9 Try.underlying9
  rw [e]
  have hs : ∀ l : List UInt8, strOfNums (l.map fun x => (x.toNat : Int)) = st l := fun l => by
    simp only [strOfNums, st, List.map_map]
    congr 2
    have : ((fun n : Int => UInt8.ofNat n.toNat) ∘ fun x : UInt8 => (x.toNat : Int)) = id := by
      funext x; simp
    rw [this, List.map_id]
  rw [hs]
def fiRel (w : World) (T : Tb) (a : Nat) (v : Value) (wr : World) : Prop := ∃ j : Nat, j ≤ knT T a 4080 ∧ v = .int .i64 ((a + j : Nat) : Int) ∧ Eqv w wr
set_option maxHeartbeats 3200000 in
theorem rtfirst_any {S : Nat → Prop} {x : Nat} {T : Tb} {w : World} (h : RtAt S x T w) {a : Nat} (ha : a < 191 * T.R) : Calls Try.prog 43 #[.pointer (some ⟨x, 0, none⟩), .int .i64 (a : Int)] w fun e w' => e = .returned (.int .i64 (firstT T a : Int)) ∧ Keeps w w' := by
  obtain ⟨bb, bi, bs, h⟩ := h
  obtain ⟨hr1, hr2⟩ := h.ok.bd
  have HC := Lib.hid h.c
  have HB := Lib.hid h.b
  have HI := Lib.hid h.i
  have HKI := Lib.hid (knT_is T 4080 a)
  have HKS := Lib.hid (knT_stop T 4080 a)
  have hkl := knT_le T 4080 a
  have HFT := Lib.hid (show firstT T a = firstL (txtT T a (knT T a 4080)) from rfl)
  obtain ⟨K, hK⟩ : ∃ K, knT T a 4080 = K := ⟨_, rfl⟩
  have HK := Lib.hid hK
  rw [hK] at HKI HKS hkl HFT
  obtain ⟨R, hR⟩ : ∃ R, T.R = R := ⟨_, rfl⟩
  rw [hR] at hr1 hr2 ha HC HB HI HKI HKS
  clear h hR hK
  have hal : a + K ≤ 191 * R := by
    by_cases z : K = 0
    · omega
    · have := (HKI.out (K - 1) (by omega)).1; omega
  have wr1 := wrapI (a := 191 * (R : Int)) (by omega) (by omega)
  have wr2 := wrapI (a := (a : Int) + 4080) (by omega) (by omega)
  rw [HFT.out]
  obtain ⟨F, hF⟩ : ∃ F, firstL (txtT T a K) = F := ⟨_, rfl⟩
  rw [hF] at HFT ⊢
  have HFF := Lib.hid hF
  clear hF HFT
  go_enter Try.func43, Try.ntmps43
  go_wp2
  go_loopw [5] (fun v wr => fiRel w T a v wr) (fun v _ => 191 * R - (intOf v).toNat)
  case atStart => exact ⟨0, by rw [HK.out]; omega, rfl, Eqv.refl w⟩
  case round =>
    obtain ⟨j, hj, rfl, hw⟩ := hrel
    rw [HK.out] at hj
    have HW := Lib.hid hw
    have c0 := (HC.out.eqv hw).cell 0 rfl
    have c1 := (HC.out.eqv hw).cell 1 rfl
    have c2 := (HC.out.eqv hw).cell 2 rfl
    clear hw
    obtain ⟨q, hq⟩ : ∃ q, a + j = q := ⟨_, rfl⟩
    rw [hq]
    have hqb : q ≤ 191 * R := by omega
    by_cases hlt : j < K
    · obtain ⟨g1, g2⟩ := HKI.out j hlt
      rw [hq] at g1 g2
      have d1 := (HW.out.cell ⟨bi, q, none⟩).trans (HI.out.cell q (by omega))
      rw [g2] at d1
      have hqI : (q : Int) < 191 * (R : Int) := by omega
      have hqJ : (q : Int) < 255 * (R : Int) := by omega
      have hqK : (q : Int) < (a : Int) + 4080 := by omega
      have wr3 := wrapI (a := (q : Int) + 1) (by omega) (by omega)
      clear g1 g2
      go_wp2
      go_roundw
      case rel => exact ⟨j + 1, by rw [HK.out]; omega, by rw [← hq]; go_num, HW.out⟩
      case measure => simp [intOf]; omega
    · obtain rfl : j = K := by omega
      have hst := HKS.out
      have HCV := Lib.hid (fun (W : World) (e : Eqv w W) (cap : Nat) => show (convert 40 9 (.slice (some ⟨bb, a, none⟩) j cap)).run Try.prog W = .ok (.string (st (txtT T a j))) W from
        BlF.text (HB.out.block (by rw [e.heap]) (by rw [e.size]; exact Nat.le_refl _)) a j cap (by omega))
      obtain ⟨l, hl⟩ : ∃ l, txtT T a j = l := ⟨_, rfl⟩
      have hll : l.length = j := by rw [← hl, txtT_length]
      rw [hl] at HCV HFF
      have hcv := HCV.out wr HW.out (255 * R - a)
      have hS : (st l).size = j := by rw [st_size]; exact hll
      have HPK := Lib.hid (fun (W : World) (e : Keeps w W) => show Calls Try.prog 51 #[.string (st l)] W (HdPost w (Dg.peek l)) by have := dgrpeek_any w (st l) W (by omega) e; unfold PkPost at this; rwa [ls_st] at this)
      have HCK := Lib.hid (fun (n : Nat) (W : World) => show Calls Try.prog 52 #[.string ((st l).extract 0 n)] W (ChPost W (l.take n)) by
        have e1 : ls ((st l).extract 0 n) = l.take n := by rw [ls_part, ls_st]; simp
        have := dgrcheck_any W ((st l).extract 0 n) W (by rw [ls_size, e1, List.length_take]; omega) (Keeps.refl W)
        rwa [e1] at this)
      unfold HdPost at HPK
      unfold ChPost at HCK
      have hok : (Dg.peek l).2 = 0 → 20 ≤ (Dg.peek l).1.l := fun e => by have := Dg.peek_ok e; omega
      have HFL := Lib.hid (show firstL l = if (Dg.peek l).2 ≠ 0 ∨ (l.length : Int) < (Dg.peek l).1.l ∨ Dg.check (l.take (Dg.peek l).1.l.toNat) ≠ 0 then 0 else (Dg.peek l).1.l.toNat from rfl)
      obtain ⟨⟨⟨r1, r2, r3, r4⟩, r5⟩, hr⟩ : ∃ r, Dg.peek l = r := ⟨_, rfl⟩
      rw [hr] at HPK HFL hok
      simp only at HFL hok
      rw [hll] at HFL
      have HKW := Lib.hid ((Keeps.refl w).eqv HW.out)
      obtain ⟨s, hs⟩ : ∃ s, st l = s := ⟨_, rfl⟩
      rw [hs] at HPK HCK hS hcv
      rw [show j = q - a by omega] at hcv
      have haI : (a : Int) ≤ (q : Int) := by omega
      have hqe : (q : Int) - (a : Int) = (j : Int) := by omega
      have hq255 : (q : Int) ≤ 255 * (R : Int) := by omega
      clear hr hs HCV hl
      by_cases hA : q < 191 * R
      · have hqI : (q : Int) < 191 * (R : Int) := by omega
        by_cases hB : j < 4080
        · have hqK : (q : Int) < (a : Int) + 4080 := by omega
          have hqJ : (q : Int) < 255 * (R : Int) := by omega
          have hisq : T.Is q = false := by
            cases z : T.Is q
            · rfl
            · exact absurd ⟨by rw [hq]; exact hA, by rw [hq]; exact z⟩ (hst hB)
          have d1 := (HW.out.cell ⟨bi, q, none⟩).trans (HI.out.cell q (by omega))
          rw [hisq] at d1
          clear hst hisq
          by_cases h5 : r5 = 0
          · subst h5
            have h20 := hok rfl
            obtain ⟨n, rfl⟩ : ∃ n : Nat, r3 = (n : Int) := ⟨r3.toNat, by omega⟩
            rw [Int.toNat_natCast] at HFL
            by_cases hlt3 : (j : Int) < (n : Int)
            · have HZ := Lib.hid (show F = 0 by rw [← HFF.out, HFL.out, if_pos (.inr (.inl hlt3))])
              have hlt4 : (s.size : Int) < (n : Int) := by omega
              clear HFL hok
              go_wp2_with (go_at_call 51; refine (HPK.out _ HKW.out).mono ?_; rintro _ w5 ⟨rfl, k5⟩; unfold hdR)
              go_ret
              exact ⟨by rw [HZ.out]; rfl, k5.alloc _⟩
            · have hlt4 : ¬ ((s.size : Int) < (n : Int)) := by omega
              have hnn : n ≤ s.size := by omega
              have HCN := Lib.hid (HCK.out n)
              obtain ⟨c, hc⟩ : ∃ c, Dg.check (l.take n) = c := ⟨_, rfl⟩
              rw [hc] at HCN HFL
              clear hc
              by_cases hc0 : c = 0
              · subst hc0
                have HZ := Lib.hid (show F = n by rw [← HFF.out, HFL.out, if_neg]; rintro (y | y | y); exact y rfl; exact hlt3 y; exact y rfl)
                clear HFL hok
                go_wp2_with (first | (go_at_call 51; refine (HPK.out _ HKW.out).mono ?_; rintro _ w5 ⟨rfl, k5⟩; unfold hdR) | (go_at_call 52; refine (HCN.out _).mono ?_; rintro _ w6 ⟨rfl, k6⟩; have c2 : w6.cell? ⟨w5.heap.size, 2, none⟩ = some (.int .i64 (n : Int)) := (Below.cell k6 (p := ⟨w5.heap.size, 2, none⟩) (by simp)).trans (by rw [World.cell?_alloc_new]; rfl); have HK6 := Lib.hid ((k5.alloc _).trans k6); clear k6))
                go_ret
                exact ⟨by rw [HZ.out]; rfl, HK6.out⟩
              · have HZ := Lib.hid (show F = 0 by rw [← HFF.out, HFL.out, if_pos (.inr (.inr hc0))])
                have hcb : (c != 0) = true := by simpa using hc0
                clear HFL hok
                go_wp2_with (first | (go_at_call 51; refine (HPK.out _ HKW.out).mono ?_; rintro _ w5 ⟨rfl, k5⟩; unfold hdR) | (go_at_call 52; refine (HCN.out _).mono ?_; rintro _ w6 ⟨rfl, k6⟩; have c2 : w6.cell? ⟨w5.heap.size, 2, none⟩ = some (.int .i64 (n : Int)) := (Below.cell k6 (p := ⟨w5.heap.size, 2, none⟩) (by simp)).trans (by rw [World.cell?_alloc_new]; rfl); have HK6 := Lib.hid ((k5.alloc _).trans k6); clear k6))
                go_ret
                exact ⟨by rw [HZ.out]; rfl, HK6.out⟩
          · have HZ := Lib.hid (show F = 0 by rw [← HFF.out, HFL.out, if_pos (.inl h5)])
            have h5b : (r5 != 0) = true := by simpa using h5
            clear HFL hok
            go_wp2_with (go_at_call 51; refine (HPK.out _ HKW.out).mono ?_; rintro _ w5 ⟨rfl, k5⟩; unfold hdR)
            go_ret
            exact ⟨by rw [HZ.out]; rfl, k5.alloc _⟩
        · have hqK : ¬ ((q : Int) < (a : Int) + 4080) := by omega
          clear hst
          by_cases h5 : r5 = 0
          · subst h5
            have h20 := hok rfl
            obtain ⟨n, rfl⟩ : ∃ n : Nat, r3 = (n : Int) := ⟨r3.toNat, by omega⟩
            rw [Int.toNat_natCast] at HFL
            by_cases hlt3 : (j : Int) < (n : Int)
            · have HZ := Lib.hid (show F = 0 by rw [← HFF.out, HFL.out, if_pos (.inr (.inl hlt3))])
              have hlt4 : (s.size : Int) < (n : Int) := by omega
              clear HFL hok
              go_wp2_with (go_at_call 51; refine (HPK.out _ HKW.out).mono ?_; rintro _ w5 ⟨rfl, k5⟩; unfold hdR)
              go_ret
              exact ⟨by rw [HZ.out]; rfl, k5.alloc _⟩
            · have hlt4 : ¬ ((s.size : Int) < (n : Int)) := by omega
              have hnn : n ≤ s.size := by omega
              have HCN := Lib.hid (HCK.out n)
              obtain ⟨c, hc⟩ : ∃ c, Dg.check (l.take n) = c := ⟨_, rfl⟩
              rw [hc] at HCN HFL
              clear hc
              by_cases hc0 : c = 0
              · subst hc0
                have HZ := Lib.hid (show F = n by rw [← HFF.out, HFL.out, if_neg]; rintro (y | y | y); exact y rfl; exact hlt3 y; exact y rfl)
                clear HFL hok
                go_wp2_with (first | (go_at_call 51; refine (HPK.out _ HKW.out).mono ?_; rintro _ w5 ⟨rfl, k5⟩; unfold hdR) | (go_at_call 52; refine (HCN.out _).mono ?_; rintro _ w6 ⟨rfl, k6⟩; have c2 : w6.cell? ⟨w5.heap.size, 2, none⟩ = some (.int .i64 (n : Int)) := (Below.cell k6 (p := ⟨w5.heap.size, 2, none⟩) (by simp)).trans (by rw [World.cell?_alloc_new]; rfl); have HK6 := Lib.hid ((k5.alloc _).trans k6); clear k6))
                go_ret
                exact ⟨by rw [HZ.out]; rfl, HK6.out⟩
              · have HZ := Lib.hid (show F = 0 by rw [← HFF.out, HFL.out, if_pos (.inr (.inr hc0))])
                have hcb : (c != 0) = true := by simpa using hc0
                clear HFL hok
                go_wp2_with (first | (go_at_call 51; refine (HPK.out _ HKW.out).mono ?_; rintro _ w5 ⟨rfl, k5⟩; unfold hdR) | (go_at_call 52; refine (HCN.out _).mono ?_; rintro _ w6 ⟨rfl, k6⟩; have c2 : w6.cell? ⟨w5.heap.size, 2, none⟩ = some (.int .i64 (n : Int)) := (Below.cell k6 (p := ⟨w5.heap.size, 2, none⟩) (by simp)).trans (by rw [World.cell?_alloc_new]; rfl); have HK6 := Lib.hid ((k5.alloc _).trans k6); clear k6))
                go_ret
                exact ⟨by rw [HZ.out]; rfl, HK6.out⟩
          · have HZ := Lib.hid (show F = 0 by rw [← HFF.out, HFL.out, if_pos (.inl h5)])
            have h5b : (r5 != 0) = true := by simpa using h5
            clear HFL hok
            go_wp2_with (go_at_call 51; refine (HPK.out _ HKW.out).mono ?_; rintro _ w5 ⟨rfl, k5⟩; unfold hdR)
            go_ret
            exact ⟨by rw [HZ.out]; rfl, k5.alloc _⟩
      · have hqI : ¬ ((q : Int) < 191 * (R : Int)) := by omega
        clear hst
        by_cases h5 : r5 = 0
        · subst h5
          have h20 := hok rfl
          obtain ⟨n, rfl⟩ : ∃ n : Nat, r3 = (n : Int) := ⟨r3.toNat, by omega⟩
          rw [Int.toNat_natCast] at HFL
          by_cases hlt3 : (j : Int) < (n : Int)
          · have HZ := Lib.hid (show F = 0 by rw [← HFF.out, HFL.out, if_pos (.inr (.inl hlt3))])
            have hlt4 : (s.size : Int) < (n : Int) := by omega
            clear HFL hok
            go_wp2_with (go_at_call 51; refine (HPK.out _ HKW.out).mono ?_; rintro _ w5 ⟨rfl, k5⟩; unfold hdR)
            go_ret
            exact ⟨by rw [HZ.out]; rfl, k5.alloc _⟩
          · have hlt4 : ¬ ((s.size : Int) < (n : Int)) := by omega
            have hnn : n ≤ s.size := by omega
            have HCN := Lib.hid (HCK.out n)
            obtain ⟨c, hc⟩ : ∃ c, Dg.check (l.take n) = c := ⟨_, rfl⟩
            rw [hc] at HCN HFL
            clear hc
            by_cases hc0 : c = 0
            · subst hc0
              have HZ := Lib.hid (show F = n by rw [← HFF.out, HFL.out, if_neg]; rintro (y | y | y); exact y rfl; exact hlt3 y; exact y rfl)
              clear HFL hok
              go_wp2_with (first | (go_at_call 51; refine (HPK.out _ HKW.out).mono ?_; rintro _ w5 ⟨rfl, k5⟩; unfold hdR) | (go_at_call 52; refine (HCN.out _).mono ?_; rintro _ w6 ⟨rfl, k6⟩; have c2 : w6.cell? ⟨w5.heap.size, 2, none⟩ = some (.int .i64 (n : Int)) := (Below.cell k6 (p := ⟨w5.heap.size, 2, none⟩) (by simp)).trans (by rw [World.cell?_alloc_new]; rfl); have HK6 := Lib.hid ((k5.alloc _).trans k6); clear k6))
              go_ret
              exact ⟨by rw [HZ.out]; rfl, HK6.out⟩
            · have HZ := Lib.hid (show F = 0 by rw [← HFF.out, HFL.out, if_pos (.inr (.inr hc0))])
              have hcb : (c != 0) = true := by simpa using hc0
              clear HFL hok
              go_wp2_with (first | (go_at_call 51; refine (HPK.out _ HKW.out).mono ?_; rintro _ w5 ⟨rfl, k5⟩; unfold hdR) | (go_at_call 52; refine (HCN.out _).mono ?_; rintro _ w6 ⟨rfl, k6⟩; have c2 : w6.cell? ⟨w5.heap.size, 2, none⟩ = some (.int .i64 (n : Int)) := (Below.cell k6 (p := ⟨w5.heap.size, 2, none⟩) (by simp)).trans (by rw [World.cell?_alloc_new]; rfl); have HK6 := Lib.hid ((k5.alloc _).trans k6); clear k6))
              go_ret
              exact ⟨by rw [HZ.out]; rfl, HK6.out⟩
        · have HZ := Lib.hid (show F = 0 by rw [← HFF.out, HFL.out, if_pos (.inl h5)])
          have h5b : (r5 != 0) = true := by simpa using h5
          clear HFL hok
          go_wp2_with (go_at_call 51; refine (HPK.out _ HKW.out).mono ?_; rintro _ w5 ⟨rfl, k5⟩; unfold hdR)
          go_ret
          exact ⟨by rw [HZ.out]; rfl, k5.alloc _⟩
end Go.Proofs.Ytpkidopnkofccaa
