/-
  What ReadSlice of package descr answers. The memory that was there stays.
-/
import Derived.Test.YtlghkdkaifcliaaDoorDsQ
import Derived.Test.YtlghkdkaifcliaaDoorShelf
import Derived.Test.YtlghkdkaifcliaaDoorDrawHT
namespace Go.Proofs.YtlghkdkaifcliaaDoor
open Go.RowKit Gf Ds
set_option maxRecDepth 100000
set_option linter.unusedVariables false
set_option linter.unusedSimpArgs false
/-- The Slice of a body, whatever its other bits are. -/
def rdQ (l : List UInt8) : Slc := ⟨decide ((cf l 0).toNat / 128 = 1), decide ((cf l 0).toNat / 32 % 2 = 1), ((256 * ((cf l 0).toNat % 4 + 1) : Nat) : Int), ((cf l 1).toNat : Int), (((cf l 2).toNat / 16 : Nat) : Int), (((cf l 2).toNat % 16 : Nat) : Int), st (l.drop 3)⟩
theorem rsl_yes {d : Dsc} (h : okSl (rdQ (ls d.body))) (k : slD (rdQ (ls d.body)) = d) : rsl d = (rdQ (ls d.body), 0) := by
  have := rsl_slD h
  rwa [k] at this
theorem rsl_not {d : Dsc} (ht : d.tag = 119) (hz : ¬ d.body.size < 3) (h : ¬ (okSl (rdQ (ls d.body)) ∧ slD (rdQ (ls d.body)) = d)) : rsl d = (zSl, 12) := by
  refine rsl_form ht hz fun f => h ?_
  have e := rsl_ok ht hz f
  have g := rsl_good (d := d) (by rw [e])
  rw [e] at g
  have eq : rdSl (ls d.body) = rdQ (ls d.body) := by
    unfold rdSl rdQ
    have f4 := f.2.2.2
    rw [show (cf (ls d.body) 0).toNat % 8 = (cf (ls d.body) 0).toNat % 4 by omega]
  rw [eq] at g
  exact g
theorem numQ (l : List UInt8) : numSl (rdQ l) := by
  have h1 := (cf l 1).toNat_lt
  have h2 := (cf l 2).toNat_lt
  refine ⟨?_, ⟨?_, ?_⟩, ⟨?_, ?_⟩, ?_, ?_⟩
  · show okR ((256 * ((cf l 0).toNat % 4 + 1) : Nat) : Int); unfold okR; omega
  · show (0 : Int) ≤ ((cf l 1).toNat : Int); omega
  · show ((cf l 1).toNat : Int) ≤ 255; omega
  · show (0 : Int) ≤ (((cf l 2).toNat / 16 : Nat) : Int); omega
  · show (((cf l 2).toNat / 16 : Nat) : Int) ≤ 15; omega
  · show (0 : Int) ≤ (((cf l 2).toNat % 16 : Nat) : Int); omega
  · show (((cf l 2).toNat % 16 : Nat) : Int) ≤ 15; omega
set_option maxHeartbeats 1600000 in
theorem ers_kind (d : Dsc) (w : World) (hT : TS w) (h : d.tag ≠ 119) : Calls Tryd.prog 21 #[dsV d] w (DrsPost w (rsl d)) := by
  obtain ⟨X, hX⟩ : ∃ X, w.heap.size = X := ⟨_, rfl⟩
  obtain ⟨wA, hA⟩ : ∃ wX, w.alloc (.cells #[.int .i64 d.tag, .string d.body] 37) = wX := ⟨_, rfl⟩
  obtain ⟨wB, hB⟩ : ∃ wX, wA.alloc (.cells #[.bool false, .bool false, .int .i64 0, .int .i64 0, .int .i64 0, .int .i64 0, .string ⟨#[]⟩] 42) = wX := ⟨_, rfl⟩
  have hz : wA.heap.size = X + 1 := by rw [← hA, World.size_alloc, hX]
  have kA : Keeps w wA := by rw [← hA]; exact (Keeps.refl w).alloc _
  have kB : Keeps wA wB := by rw [← hB]; exact (Keeps.refl wA).alloc _
  have HK := Lib.hid (kA.trans kB)
  have HX := Lib.hid (show CsAt X (dsC d) wB from CsAt.keeps (w := wA) (by rw [← hX, ← hA]; exact CsAt.made w #[.int .i64 d.tag, .string d.body] _ (by simp)) kB)
  have HD := Lib.hid (show CsAns w (X + 1) (slC zSl) wB from ⟨by rw [← hz, ← hB]; exact CsAt.made wA #[.bool false, .bool false, .int .i64 0, .int .i64 0, .int .i64 0, .int .i64 0, .string ⟨#[]⟩] _ (by simp), kA.trans kB, by omega⟩)
  have HT := Lib.hid (hT.keeps HK.out)
  have HBY := Lib.hid (fun W => dbytes_any (ws := wsS) rfl (by decide) (n := 3) rfl W)
  clear kA kB hT
  have HF := Lib.hid (rsl_kind h)
  obtain ⟨tag, body⟩ := d
  simp only at *
  have ht : (tag != 119) = true := bne_iff_ne.2 h
  clear h
  go_enter Tryd.func21, Tryd.ntmps21
  go_wp2_with (first | (refine dwp_ldG (g := 0) (l := wsS) HT.out rfl _ rfl rfl ?_) | (go_at_call 49; refine (HBY.out _).mono ?_; rintro _ w1 ⟨rfl, k1⟩; have HX1 := Lib.hid (HX.out.keeps k1); have HD1 := Lib.hid (HD.out.keeps k1); have HT1 := Lib.hid (HT.out.keeps k1); have q0 := HX1.out.cell 0 rfl; have q1 := HX1.out.cell 1 rfl; clear k1) | (refine dwp_stSl (b := X + 1) (off := 0) zSl (HD1.out.z.there (by decide)) rfl _ _ rfl rfl rfl ?_))
  refine cs_ret2 Tryd.results21 (dlvSl (HD1.out.ends (slC zSl) rfl).z.r) rfl rfl rfl ?_
  exact ⟨(by rw [HF.out]; rfl), (HD1.out.ends (slC zSl) rfl).k⟩
set_option maxHeartbeats 1600000 in
theorem ers_short (d : Dsc) (w : World) (hT : TS w) (h : d.tag = 119) (k : d.body.size < 3) : Calls Tryd.prog 21 #[dsV d] w (DrsPost w (rsl d)) := by
  obtain ⟨X, hX⟩ : ∃ X, w.heap.size = X := ⟨_, rfl⟩
  obtain ⟨wA, hA⟩ : ∃ wX, w.alloc (.cells #[.int .i64 d.tag, .string d.body] 37) = wX := ⟨_, rfl⟩
  obtain ⟨wB, hB⟩ : ∃ wX, wA.alloc (.cells #[.bool false, .bool false, .int .i64 0, .int .i64 0, .int .i64 0, .int .i64 0, .string ⟨#[]⟩] 42) = wX := ⟨_, rfl⟩
  have hz : wA.heap.size = X + 1 := by rw [← hA, World.size_alloc, hX]
  have kA : Keeps w wA := by rw [← hA]; exact (Keeps.refl w).alloc _
  have kB : Keeps wA wB := by rw [← hB]; exact (Keeps.refl wA).alloc _
  have HK := Lib.hid (kA.trans kB)
  have HX := Lib.hid (show CsAt X (dsC d) wB from CsAt.keeps (w := wA) (by rw [← hX, ← hA]; exact CsAt.made w #[.int .i64 d.tag, .string d.body] _ (by simp)) kB)
  have HD := Lib.hid (show CsAns w (X + 1) (slC zSl) wB from ⟨by rw [← hz, ← hB]; exact CsAt.made wA #[.bool false, .bool false, .int .i64 0, .int .i64 0, .int .i64 0, .int .i64 0, .string ⟨#[]⟩] _ (by simp), kA.trans kB, by omega⟩)
  have HT := Lib.hid (hT.keeps HK.out)
  have HBY := Lib.hid (fun W => dbytes_any (ws := wsS) rfl (by decide) (n := 3) rfl W)
  clear kA kB hT
  have HF := Lib.hid (rsl_short h k)
  obtain ⟨tag, body⟩ := d
  simp only at *
  subst h
  have ht : (body.size : Int) < 3 := by omega
  clear k
  go_enter Tryd.func21, Tryd.ntmps21
  go_wp2_with (first | (refine dwp_ldG (g := 0) (l := wsS) HT.out rfl _ rfl rfl ?_) | (go_at_call 49; refine (HBY.out _).mono ?_; rintro _ w1 ⟨rfl, k1⟩; have HX1 := Lib.hid (HX.out.keeps k1); have HD1 := Lib.hid (HD.out.keeps k1); have HT1 := Lib.hid (HT.out.keeps k1); have q0 := HX1.out.cell 0 rfl; have q1 := HX1.out.cell 1 rfl; clear k1) | (refine dwp_stSl (b := X + 1) (off := 0) zSl (HD1.out.z.there (by decide)) rfl _ _ rfl rfl rfl ?_))
  refine cs_ret2 Tryd.results21 (dlvSl (HD1.out.ends (slC zSl) rfl).z.r) rfl rfl rfl ?_
  exact ⟨(by rw [HF.out]; rfl), (HD1.out.ends (slC zSl) rfl).k⟩
set_option maxHeartbeats 6400000 in
theorem ers_read (d : Dsc) (w : World) (hT : TS w) (h : d.tag = 119) (k : ¬ d.body.size < 3) (hbig : d.body.size ≤ 1000000) : Calls Tryd.prog 21 #[dsV d] w (DrsPost w (rsl d)) := by
  obtain ⟨X, hX⟩ : ∃ X, w.heap.size = X := ⟨_, rfl⟩
  obtain ⟨wA, hA⟩ : ∃ wX, w.alloc (.cells #[.int .i64 d.tag, .string d.body] 37) = wX := ⟨_, rfl⟩
  obtain ⟨wB, hB⟩ : ∃ wX, wA.alloc (.cells #[.bool false, .bool false, .int .i64 0, .int .i64 0, .int .i64 0, .int .i64 0, .string ⟨#[]⟩] 42) = wX := ⟨_, rfl⟩
  have hz : wA.heap.size = X + 1 := by rw [← hA, World.size_alloc, hX]
  have kA : Keeps w wA := by rw [← hA]; exact (Keeps.refl w).alloc _
  have kB : Keeps wA wB := by rw [← hB]; exact (Keeps.refl wA).alloc _
  have HK := Lib.hid (kA.trans kB)
  have HX := Lib.hid (show CsAt X (dsC d) wB from CsAt.keeps (w := wA) (by rw [← hX, ← hA]; exact CsAt.made w #[.int .i64 d.tag, .string d.body] _ (by simp)) kB)
  have HD := Lib.hid (show CsAns w (X + 1) (slC zSl) wB from ⟨by rw [← hz, ← hB]; exact CsAt.made wA #[.bool false, .bool false, .int .i64 0, .int .i64 0, .int .i64 0, .int .i64 0, .string ⟨#[]⟩] _ (by simp), kA.trans kB, by omega⟩)
  have HT := Lib.hid (hT.keeps HK.out)
  have HBY := Lib.hid (fun W => dbytes_any (ws := wsS) rfl (by decide) (n := 3) rfl W)
  clear kA kB hT
  have HYES := Lib.hid (fun p q => rsl_yes (d := d) p q)
  have HNOT := Lib.hid (fun p => rsl_not (d := d) h k p)
  have HNUM := Lib.hid (numQ (ls d.body))
  obtain ⟨tag, body⟩ := d
  simp only at *
  subst h
  have ht : ¬ (body.size : Int) < 3 := by omega
  have HRD := Lib.hid (fun W => dread_any (ws := wsS) rfl gn_S rfl (by decide) (S := body) (by show 24 / 8 ≤ body.size; omega) hbig W)
  obtain ⟨c0, c1, c2, r, hl⟩ : ∃ a b c r, ls body = a :: b :: c :: r := by
    have hz := ls_size body
    rcases hx : ls body with _ | ⟨a, _ | ⟨b, _ | ⟨c, r⟩⟩⟩
    · rw [hx] at hz; simp only [List.length_cons, List.length_nil] at hz; omega
    · rw [hx] at hz; simp only [List.length_cons, List.length_nil] at hz; omega
    · rw [hx] at hz; simp only [List.length_cons, List.length_nil] at hz; omega
    · exact ⟨a, b, c, r, rfl⟩
  rw [hl, rdS] at HRD
  have bc0 := c0.toNat_lt
  have bc1 := c1.toNat_lt
  have bc2 := c2.toNat_lt
  obtain ⟨n0, hn0⟩ : ∃ n, c0.toNat / 128 = n := ⟨_, rfl⟩
  obtain ⟨n1, hn1⟩ : ∃ n, c0.toNat / 64 % 2 = n := ⟨_, rfl⟩
  obtain ⟨n2, hn2⟩ : ∃ n, c0.toNat / 32 % 2 = n := ⟨_, rfl⟩
  obtain ⟨n3, hn3⟩ : ∃ n, c0.toNat / 8 % 4 = n := ⟨_, rfl⟩
  obtain ⟨n4, hn4⟩ : ∃ n, c0.toNat / 4 % 2 = n := ⟨_, rfl⟩
  obtain ⟨n5, hn5⟩ : ∃ n, c0.toNat % 4 = n := ⟨_, rfl⟩
  obtain ⟨n6, hn6⟩ : ∃ n, c1.toNat = n := ⟨_, rfl⟩
  obtain ⟨n7, hn7⟩ : ∃ n, c2.toNat / 16 = n := ⟨_, rfl⟩
  obtain ⟨n8, hn8⟩ : ∃ n, c2.toNat % 16 = n := ⟨_, rfl⟩
  rw [hn0, hn1, hn2, hn3, hn4, hn5, hn6, hn7, hn8] at HRD
  obtain ⟨b1, hb1⟩ : ∃ b, ((n0 : Int) == 1) = b := ⟨_, rfl⟩
  obtain ⟨b2, hb2⟩ : ∃ b, ((n2 : Int) == 1) = b := ⟨_, rfl⟩
  obtain ⟨E1, hE1⟩ : ∃ A : Nat, n5 + 1 = A := ⟨_, rfl⟩
  obtain ⟨R, hR⟩ : ∃ A : Nat, E1 * 256 = A := ⟨_, rfl⟩
  have e1 : (n5 : Int) + 1 = (E1 : Int) := by omega
  have e2 : (E1 : Int) * 256 = (R : Int) := by omega
  have v1 := wrapI (a := (E1 : Int)) (by omega) (by omega)
  have v2 := wrapI (a := (R : Int)) (by omega) (by omega)
  obtain ⟨B3, hB3⟩ : ∃ B, body.extract 3 body.size = B := ⟨_, rfl⟩
  have hB3z : B3.size ≤ 1000000 := by rw [← hB3, ByteArray.size_extract]; omega
  have hQ : rdQ (ls body) = ⟨b1, b2, (R : Int), (n6 : Int), (n7 : Int), (n8 : Int), B3⟩ := by
    unfold rdQ
    rw [hl]
    show (⟨decide (c0.toNat / 128 = 1), decide (c0.toNat / 32 % 2 = 1), ((256 * (c0.toNat % 4 + 1) : Nat) : Int), (c1.toNat : Int), ((c2.toNat / 16 : Nat) : Int), ((c2.toNat % 16 : Nat) : Int), st ((c0 :: c1 :: c2 :: r).drop 3)⟩ : Slc) = _
    rw [hn0, hn2, hn5, hn6, hn7, hn8]
    have q1 : decide (n0 = 1) = b1 := by
      rw [← hb1, ← Bool.beq_eq_decide_eq, Bool.eq_iff_iff]
      simp only [beq_iff_eq]; omega
    have q2 : decide (n2 = 1) = b2 := by
      rw [← hb2, ← Bool.beq_eq_decide_eq, Bool.eq_iff_iff]
      simp only [beq_iff_eq]; omega
    rw [q1, q2, show ((256 * (n5 + 1) : Nat) : Int) = (R : Int) by omega, ← hl]
    congr 1
    rw [← hB3, ← st_ls (body.extract 3 body.size), ls_part, List.take_of_length_le (by rw [List.length_drop, ← ls_size]; exact Nat.le_refl _)]
  rw [hQ] at HYES HNOT HNUM
  have i3 : (3 : Int) ≤ (body.size : Int) := by omega
  have HMK := Lib.hid (fun W (q : TS W) => dmk_any ⟨b1, b2, (R : Int), (n6 : Int), (n7 : Int), (n8 : Int), B3⟩ (show inI (R : Int) by unfold inI; omega) W q)
  have HCL := Lib.hid (fun W => clone_any B3 W (by omega))
  clear hn0 hn1 hn2 hn3 hn4 hn5 hn6 hn7 hn8 hl hQ hE1 hR
  go_enter Tryd.func21, Tryd.ntmps21
  go_wp2_with (first | (refine dwp_ldG (g := 0) (l := wsS) HT.out rfl _ rfl rfl ?_) | (go_at_call 49; refine (HBY.out _).mono ?_; rintro _ w1 ⟨rfl, k1⟩; have HX1 := Lib.hid (HX.out.keeps k1); have HD1 := Lib.hid (HD.out.keeps k1); have HT1 := Lib.hid (HT.out.keeps k1); have q0 := HX1.out.cell 0 rfl; have q1 := HX1.out.cell 1 rfl; clear k1) | (refine dwp_ldG (g := 0) (l := wsS) HT1.out rfl _ rfl rfl ?_) | (go_at_call 50; refine (HRD.out _).mono ?_; rintro _ w2 ⟨rfl, k2⟩; have HX2 := Lib.hid (HX1.out.keeps k2); have HD2 := Lib.hid (HD1.out.keeps k2); have HT2 := Lib.hid (HT1.out.keeps k2); obtain ⟨Y, hY⟩ : ∃ Y, w2.heap.size = Y := ⟨_, rfl⟩; obtain ⟨wC, hC⟩ : ∃ W, w2.alloc (.cells #[.int .i64 0, .int .i64 0, .int .i64 0, .int .i64 0, .int .i64 0, .int .i64 0, .int .i64 0, .int .i64 0, .int .i64 0] 111) = W := ⟨_, rfl⟩; have HC := Lib.hid (show CsAns w2 Y (nC [0, 0, 0, 0, 0, 0, 0, 0, 0]) wC from ⟨by rw [← hY, ← hC]; exact CsAt.made w2 #[.int .i64 0, .int .i64 0, .int .i64 0, .int .i64 0, .int .i64 0, .int .i64 0, .int .i64 0, .int .i64 0, .int .i64 0] _ (by simp), by rw [← hC]; exact (Keeps.refl w2).alloc _, by omega⟩); clear k2 q0 q1) | (refine wp_stN (b := Y) HC.out.z rfl (nC [(n0 : Int), (n1 : Int), (n2 : Int), (n3 : Int), (n4 : Int), (n5 : Int), (n6 : Int), (n7 : Int), (n8 : Int)]) rfl (nC_one _) rfl _ _ rfl rfl rfl ?_; obtain ⟨wD, hD⟩ : ∃ W, wC.setCells Y 0 (nC [(n0 : Int), (n1 : Int), (n2 : Int), (n3 : Int), (n4 : Int), (n5 : Int), (n6 : Int), (n7 : Int), (n8 : Int)]) = W := ⟨_, rfl⟩; have hcD := HC.out.ends (nC [(n0 : Int), (n1 : Int), (n2 : Int), (n3 : Int), (n4 : Int), (n5 : Int), (n6 : Int), (n7 : Int), (n8 : Int)]) rfl; rw [hD] at hcD ⊢; have HCD := Lib.hid hcD; have HXD := Lib.hid (HX2.out.keeps hcD.k); have HDD := Lib.hid (HD2.out.keeps hcD.k); have HTD := Lib.hid (HT2.out.keeps hcD.k); clear hcD hD hC hY))
  refine wp_draw_ht (Γ := Nat) 23 (by kernel_rfl) (vsPt [.pointer (some ⟨Y, 0, none⟩), .int .i64 (n0 : Int), .bool b1, .pointer (some ⟨Y, 2, none⟩), .int .i64 (n2 : Int), .bool b2, .pointer (some ⟨Y, 5, none⟩), .int .i64 (n5 : Int), .int .i64 (E1 : Int), .int .i64 (R : Int), .pointer (some ⟨Y, 6, none⟩), .int .i64 (n6 : Int), .pointer (some ⟨Y, 7, none⟩), .int .i64 (n7 : Int), .pointer (some ⟨Y, 8, none⟩), .int .i64 (n8 : Int), .pointer (some ⟨X, 1, none⟩), .string body, .int .i64 3, .string B3, .string B3, slV ⟨b1, b2, (R : Int), (n6 : Int), (n7 : Int), (n8 : Int), B3⟩])
    (AlR wD 22 (slC zSl)) rfl (by kernel_rfl) (by kernel_rfl) ?fin0 ?hfin0 0 (AlR.start (Eqv.drew wD)) ?each0 ?hend0
  case hfin0 => intro γ; simp [vsPt, seqA, dstOf, Act.put]; rfl
  case each0 =>
    refine ⟨?_, ?_, ?_, ?_, ?_, ?_, ?_, ?_, ?_, ?_, ?_, ?_, ?_, ?_, ?_, ?_, ?_, ?_, ?_, ?_, ?_, ?_, ?_, trivial⟩
    all_goals intro γ L w5 h0 hd hs hw
    all_goals unfold Does
    all_goals try simp only [Nat.zero_add, Nat.reduceAdd] at h0
    all_goals have y1 := (HXD.out.keeps hw.kp).cell 1 rfl
    all_goals have z0 := (HCD.out.z.keeps hw.kp).cell 0 rfl
    all_goals have z2 := (HCD.out.z.keeps hw.kp).cell 2 rfl
    all_goals have z5 := (HCD.out.z.keeps hw.kp).cell 5 rfl
    all_goals have z6 := (HCD.out.z.keeps hw.kp).cell 6 rfl
    all_goals have z7 := (HCD.out.z.keeps hw.kp).cell 7 rfl
    all_goals have z8 := (HCD.out.z.keeps hw.kp).cell 8 rfl
    all_goals go_simp
    all_goals first | exact Goes.on (fun _ => rfl) fun L' k => hw.same (by decide) k | (refine (HCL.out w5).mono ?_; rintro _ w6 ⟨rfl, k6⟩; exact ⟨_, rfl, Goes.on (fun _ => rfl) fun L' k => hw.on (by decide) k k6⟩) | exact ⟨w5.heap.size, vsPt_a rfl h0, fun _ => rfl, fun L' k => ⟨hw.kp.trans ((Keeps.refl w5).alloc _), fun _ => ⟨CsAt.made w5 #[.bool false, .bool false, .int .i64 0, .int .i64 0, .int .i64 0, .int .i64 0, .string ⟨#[]⟩] _ (by simp), Below.size hw.kp⟩⟩⟩
  case hend0 =>
  intro γ L w5 hL hw
  obtain ⟨hcg, hsg⟩ := hw.one (hL 22 (by decide))
  have HD5 := Lib.hid (HDD.out.keeps hw.kp)
  have HX5 := Lib.hid (HXD.out.keeps hw.kp)
  have HT5 := Lib.hid (HTD.out.keeps hw.kp)
  have HCG := Lib.hid hcg
  have hk6 := (only_setCells γ (slC ⟨b1, b2, (R : Int), (n6 : Int), (n7 : Int), (n8 : Int), B3⟩) 0 w5).keeps hw.kp hsg
  obtain ⟨w6, hw6⟩ : ∃ W, w5.setCells γ 0 (slC ⟨b1, b2, (R : Int), (n6 : Int), (n7 : Int), (n8 : Int), B3⟩) = W := ⟨_, rfl⟩
  have hu6 := hcg.store (slC ⟨b1, b2, (R : Int), (n6 : Int), (n7 : Int), (n8 : Int), B3⟩) rfl
  rw [hw6] at hk6 hu6
  have HU := Lib.hid hu6
  have HD6 := Lib.hid (HDD.out.keeps hk6)
  have HX6 := Lib.hid (HXD.out.keeps hk6)
  have HT6 := Lib.hid (HTD.out.keeps hk6)
  simp only [List.drop_succ_cons, List.drop_zero]
  clear hw hL hcg hsg hk6 hu6
  by_cases hm : B3.size ≤ 252
  · have hok : okSl ⟨b1, b2, (R : Int), (n6 : Int), (n7 : Int), (n8 : Int), B3⟩ := ⟨HNUM.out, hm⟩
    rw [mkS_ok hok] at HMK
    obtain ⟨BD, hBD⟩ : ∃ BD, (slD ⟨b1, b2, (R : Int), (n6 : Int), (n7 : Int), (n8 : Int), B3⟩).body = BD := ⟨_, rfl⟩
    have hsd : slD ⟨b1, b2, (R : Int), (n6 : Int), (n7 : Int), (n8 : Int), B3⟩ = ⟨119, BD⟩ := by rw [← hBD]; rfl
    rw [hsd] at HMK
    by_cases he : BD = body
    · have HF := Lib.hid (HYES.out hok (by rw [hsd, he]))
      have hsame : sameDd ⟨119, BD⟩ ⟨119, body⟩ = true := by rw [he]; exact sameDd_self _
      have hne := fun W => nedDd ⟨119, BD⟩ ⟨119, body⟩ W
      simp only [hsame, Bool.not_true] at hne
      have heg := egdDd
      clear hsame hBD hsd he hm hok
      go_wp2_with (first | (refine dwp_stSl (b := γ) (off := 0) ⟨b1, b2, (R : Int), (n6 : Int), (n7 : Int), (n8 : Int), B3⟩ (HCG.out.there (by decide)) rfl _ _ rfl rfl rfl ?_; rw [hw6]) | (refine dwp_ldSl (b := γ) (off := 0) HU.out.r rfl _ rfl rfl ?_) | (go_at_call 19; refine (HMK.out _ HT6.out).mono ?_; rintro _ w7 ⟨rfl, k7⟩; obtain ⟨V, hV⟩ : ∃ V, w7.heap.size = V := ⟨_, rfl⟩; obtain ⟨wE, hE⟩ : ∃ W, w7.alloc (.cells #[.int .i64 119, .string BD] 37) = W := ⟨_, rfl⟩; have kE : Keeps w7 wE := (by rw [← hE]; exact (Keeps.refl w7).alloc _); have HVE := (show CsAt V (dsC ⟨119, BD⟩) wE by rw [← hV, ← hE]; exact CsAt.made w7 #[.int .i64 119, .string BD] _ (by simp)); have HDE := Lib.hid ((HD6.out.keeps k7).keeps kE); have HXE := ((HX6.out.keeps k7).keeps kE); have HUE := Lib.hid ((HU.out.keeps k7).keeps kE); have p0 := HVE.cell 0 rfl; have p1 := HVE.cell 1 rfl; have q0 := HXE.cell 0 rfl; have q1 := HXE.cell 1 rfl; clear k7 kE HVE HXE) | (refine dwp_ldSl (b := γ) (off := 0) HUE.out.r rfl _ rfl rfl ?_) | (refine dwp_stSl (b := X + 1) (off := 0) ⟨b1, b2, (R : Int), (n6 : Int), (n7 : Int), (n8 : Int), B3⟩ (HDE.out.z.there (by decide)) rfl _ _ rfl rfl rfl ?_))
      refine cs_ret2 Tryd.results21 (dlvSl (s := ⟨b1, b2, (R : Int), (n6 : Int), (n7 : Int), (n8 : Int), B3⟩) (HDE.out.ends (slC ⟨b1, b2, (R : Int), (n6 : Int), (n7 : Int), (n8 : Int), B3⟩) rfl).z.r) rfl rfl rfl ?_
      exact ⟨(by rw [HF.out]; rfl), (HDE.out.ends (slC ⟨b1, b2, (R : Int), (n6 : Int), (n7 : Int), (n8 : Int), B3⟩) rfl).k⟩
    · have HF := Lib.hid (HNOT.out (fun q => he (by have := q.2; rw [hsd] at this; exact congrArg Dsc.body this)))
      have hsame : sameDd ⟨119, BD⟩ ⟨119, body⟩ = false := sameDd_no (fun q => he (congrArg Dsc.body q))
      have hne := fun W => nedDd ⟨119, BD⟩ ⟨119, body⟩ W
      simp only [hsame, Bool.not_false] at hne
      have heg := egdDd
      clear hsame hBD hsd he hm hok
      go_wp2_with (first | (refine dwp_stSl (b := γ) (off := 0) ⟨b1, b2, (R : Int), (n6 : Int), (n7 : Int), (n8 : Int), B3⟩ (HCG.out.there (by decide)) rfl _ _ rfl rfl rfl ?_; rw [hw6]) | (refine dwp_ldSl (b := γ) (off := 0) HU.out.r rfl _ rfl rfl ?_) | (go_at_call 19; refine (HMK.out _ HT6.out).mono ?_; rintro _ w7 ⟨rfl, k7⟩; obtain ⟨V, hV⟩ : ∃ V, w7.heap.size = V := ⟨_, rfl⟩; obtain ⟨wE, hE⟩ : ∃ W, w7.alloc (.cells #[.int .i64 119, .string BD] 37) = W := ⟨_, rfl⟩; have kE : Keeps w7 wE := (by rw [← hE]; exact (Keeps.refl w7).alloc _); have HVE := (show CsAt V (dsC ⟨119, BD⟩) wE by rw [← hV, ← hE]; exact CsAt.made w7 #[.int .i64 119, .string BD] _ (by simp)); have HDE := Lib.hid ((HD6.out.keeps k7).keeps kE); have HXE := ((HX6.out.keeps k7).keeps kE); have HUE := Lib.hid ((HU.out.keeps k7).keeps kE); have p0 := HVE.cell 0 rfl; have p1 := HVE.cell 1 rfl; have q0 := HXE.cell 0 rfl; have q1 := HXE.cell 1 rfl; clear k7 kE HVE HXE) | (refine dwp_stSl (b := X + 1) (off := 0) zSl (HDE.out.z.there (by decide)) rfl _ _ rfl rfl rfl ?_))
      refine cs_ret2 Tryd.results21 (dlvSl (HDE.out.ends (slC zSl) rfl).z.r) rfl rfl rfl ?_
      exact ⟨(by rw [HF.out]; rfl), (HDE.out.ends (slC zSl) rfl).k⟩
  · have HF := Lib.hid (HNOT.out (fun q => hm q.1.2))
    rw [mkS_long HNUM.out (by show 252 < B3.size; omega), show ((zD, (11 : Int)) : Dsc × Int) = ((⟨0, ⟨#[]⟩⟩ : Dsc), (11 : Int)) from rfl] at HMK
    clear hm
    go_wp2_with (first | (refine dwp_stSl (b := γ) (off := 0) ⟨b1, b2, (R : Int), (n6 : Int), (n7 : Int), (n8 : Int), B3⟩ (HCG.out.there (by decide)) rfl _ _ rfl rfl rfl ?_; rw [hw6]) | (refine dwp_ldSl (b := γ) (off := 0) HU.out.r rfl _ rfl rfl ?_) | (go_at_call 19; refine (HMK.out _ HT6.out).mono ?_; rintro _ w7 ⟨rfl, k7⟩; have HDE := Lib.hid ((HD6.out.keeps k7).alloc (.cells #[.int .i64 0, .string ⟨#[]⟩] 37)); clear k7) | (refine dwp_stSl (b := X + 1) (off := 0) zSl (HDE.out.z.there (by decide)) rfl _ _ rfl rfl rfl ?_))
    refine cs_ret2 Tryd.results21 (dlvSl (HDE.out.ends (slC zSl) rfl).z.r) rfl rfl rfl ?_
    exact ⟨(by rw [HF.out]; rfl), (HDE.out.ends (slC zSl) rfl).k⟩
theorem ers_any (d : Dsc) (w : World) (hT : TS w) (hbig : d.body.size ≤ 1000000) : Calls Tryd.prog 21 #[dsV d] w (DrsPost w (rsl d)) := by
  by_cases h : d.tag = 119
  · by_cases k : d.body.size < 3
    · exact ers_short d w hT h k
    · exact ers_read d w hT h k hbig
  · exact ers_kind d w hT h
end Go.Proofs.YtlghkdkaifcliaaDoor
