/-
  What ReadTargets of package descr answers. The memory that was there stays.
-/
import Derived.Test.YtlghkdkaifcliaaDoorDsK
namespace Go.Proofs.YtlghkdkaifcliaaDoor
open Go.RowKit Gf Ds
set_option maxRecDepth 100000
set_option linter.unusedVariables false
set_option linter.unusedSimpArgs false
def EtPost (w : World) (q : List Tgt × Int) (e : Ending) (w' : World) : Prop := ∃ a cap, e = .returned (.tuple #[.slice a q.1.length cap, .int .i64 q.2]) ∧ IsE rowTg w' a q.1.length q.1 ∧ Keeps w w'
theorem EtPost.no {w W : World} {q : List Tgt × Int} {n : Int} (h : q = ([], n)) (k : Keeps w W) : EtPost w q (.returned (.tuple #[.slice none 0 0, .int .i64 n])) W := by
  subst h; exact ⟨none, 0, rfl, IsE.nil _ _, k⟩
theorem EtPost.yes {w w0 W : World} {q : List Tgt × Int} {l : List Tgt} {v : Value} (h : q = (l, 0)) (o : OwnE rowTg W w0.heap.size v l) (k : Keeps w W) : EtPost w q (.returned (.tuple #[v, .int .i64 0])) W := by
  subst h
  obtain ⟨a, cap, rfl, hi, _⟩ := o.is
  exact ⟨a, cap, rfl, hi, k⟩
structure TgK (w0 : World) (L R : List UInt8) (acc : List Tgt) (v : Value) (w : World) : Prop where
  sp : rdTs L = acc ++ rdTs R
  ok : ∀ x ∈ acc, okT x
  md : R.length % 5 = 0
  len : acc.length * 5 + R.length = L.length
  own : OwnE rowTg w w0.heap.size v acc
  kp : Keeps w0 w
theorem five_dst {R : List UInt8} (h0 : R ≠ []) (h : R.length % 5 = 0) : ∃ a b c d e r, R = a :: b :: c :: d :: e :: r := by
  rcases R with _ | ⟨a, _ | ⟨b, _ | ⟨c, _ | ⟨d, _ | ⟨e, r⟩⟩⟩⟩⟩
  · exact absurd rfl h0
  · simp at h
  · simp at h
  · simp at h
  · simp at h
  · exact ⟨a, b, c, d, e, r, rfl⟩
set_option maxHeartbeats 6400000 in
theorem ert_any (d : Dsc) (w : World) (hT : TT w) (hbig : d.body.size ≤ 1000000) : Calls Tryd.prog 30 #[dsV d] w (EtPost w (rts d)) := by
  obtain ⟨X, hX⟩ : ∃ X, w.heap.size = X := ⟨_, rfl⟩
  obtain ⟨wA, hA⟩ : ∃ wX, w.alloc (.cells #[.int .i64 d.tag, .string d.body] 37) = wX := ⟨_, rfl⟩
  have HKA := Lib.hid (show Keeps w wA by rw [← hA]; exact (Keeps.refl w).alloc _)
  have HX := Lib.hid (show CsAt X (dsC d) wA by rw [← hX, ← hA]; exact CsAt.made w #[.int .i64 d.tag, .string d.body] _ (by simp))
  have HT := Lib.hid (fun W (k : Keeps wA W) => hT.keeps (HKA.out.trans k))
  have HBY := Lib.hid (fun W => dbytes_any (ws := wsT) rfl (by decide) (n := 5) rfl W)
  clear hT
  by_cases h : d.tag ≠ 15
  · have HF := Lib.hid (show rts d = ([], 14) by unfold rts; rw [if_pos h])
    obtain ⟨tag, body⟩ := d
    simp only at *
    have ht : (tag != 15) = true := bne_iff_ne.2 h
    clear h
    go_enter Tryd.func30, Tryd.ntmps30
    go_wp2_with (first | (refine dwp_ldG (g := 2) (l := wsT) (HT.out _ (Keeps.refl _)) rfl _ rfl rfl ?_) | (go_at_call 49; refine (HBY.out _).mono ?_; rintro _ w1 ⟨rfl, k1⟩; have HK1 := Lib.hid k1; have q0 := (HX.out.keeps k1).cell 0 rfl; have q1 := (HX.out.keeps k1).cell 1 rfl; clear k1))
    go_ret2
    exact EtPost.no HF.out (HKA.out.trans HK1.out)
  have h15 : d.tag = 15 := Classical.not_not.1 h
  by_cases h5 : d.body.size % 5 ≠ 0
  · have HF := Lib.hid (show rts d = ([], 10) by unfold rts; rw [if_neg h, if_pos h5])
    obtain ⟨tag, body⟩ := d
    simp only at *
    subst h15
    obtain ⟨M, hM⟩ : ∃ M, body.size % 5 = M := ⟨_, rfl⟩
    rw [hM] at h5
    have hm2 : (body.size : Int) % 5 = (M : Int) := by omega
    have hm1 : (body.size : Int).tmod 5 = (M : Int) := by rw [Int.tmod_eq_emod_of_nonneg (by omega)]; exact hm2
    have hmb : M < 5 := by omega
    have v1 := wrapI (a := (M : Int)) (by omega) (by omega)
    have ht : ((M : Int) != 0) = true := bne_iff_ne.2 (by omega)
    clear h h5 hM
    go_enter Tryd.func30, Tryd.ntmps30
    go_wp2_with (first | (refine dwp_ldG (g := 2) (l := wsT) (HT.out _ (Keeps.refl _)) rfl _ rfl rfl ?_) | (go_at_call 49; refine (HBY.out _).mono ?_; rintro _ w1 ⟨rfl, k1⟩; have HK1 := Lib.hid k1; have q0 := (HX.out.keeps k1).cell 0 rfl; have q1 := (HX.out.keeps k1).cell 1 rfl; clear k1))
    go_ret2
    exact EtPost.no HF.out (HKA.out.trans HK1.out)
  have h50 : d.body.size % 5 = 0 := Classical.not_not.1 h5
  have hlen := rdTs_length (s := ls d.body) (by rw [← ls_size]; exact h50)
  rw [← ls_size] at hlen
  have HGD := (fun q : okTs (rdTs (ls d.body)) => show rts d = (rdTs (ls d.body), 0) by unfold rts; rw [if_neg h, if_neg h5, if_neg (fun x => x q)])
  have HBD := (fun q : ¬ okTs (rdTs (ls d.body)) => show rts d = ([], 12) by unfold rts; rw [if_neg h, if_neg h5, if_pos q])
  obtain ⟨tag, body⟩ := d
  simp only at *
  subst h15
  have hm2 : (body.size : Int) % 5 = 0 := by omega
  have hm1 : (body.size : Int).tmod 5 = 0 := by rw [Int.tmod_eq_emod_of_nonneg (by omega)]; exact hm2
  obtain ⟨Z, hZ⟩ : ∃ Z, body.size / 5 = Z := ⟨_, rfl⟩
  rw [hZ] at hlen
  have hd2 : (body.size : Int) / 5 = (Z : Int) := by omega
  have hd1 : (body.size : Int).tdiv 5 = (Z : Int) := by rw [Int.tdiv_eq_ediv_of_nonneg (by omega)]; exact hd2
  have v1 := wrapI (a := (Z : Int)) (by omega) (by omega)
  by_cases hbg : 51 < Z
  · have HF := Lib.hid (HBD (fun q => by have := q.2; omega))
    have hgi : (51 : Int) < (Z : Int) := by omega
    clear h h5 h50 hlen HGD HBD hZ hbg
    go_enter Tryd.func30, Tryd.ntmps30
    go_wp2_with (first | (refine dwp_ldG (g := 2) (l := wsT) (HT.out _ (Keeps.refl _)) rfl _ rfl rfl ?_) | (go_at_call 49; refine (HBY.out _).mono ?_; rintro _ w1 ⟨rfl, k1⟩; have HK1 := Lib.hid k1; have q0 := (HX.out.keeps k1).cell 0 rfl; have q1 := (HX.out.keeps k1).cell 1 rfl; clear k1))
    go_ret2
    exact EtPost.no HF.out (HKA.out.trans HK1.out)
  have hgi : ¬ (51 : Int) < (Z : Int) := by omega
  have HLN := Lib.hid hlen
  have HZB := Lib.hid (show Z ≤ 51 by omega)
  have HGD := Lib.hid HGD
  have HBD := Lib.hid HBD
  obtain ⟨L, hL⟩ : ∃ L, ls body = L := ⟨_, rfl⟩
  have HSB := Lib.hid (show body = st L by rw [← hL, st_ls])
  have hLb : L.length ≤ 1000000 := by rw [← hL, ← ls_size]; exact hbig
  have HL5 := Lib.hid (show L.length % 5 = 0 by rw [← hL, ← ls_size]; exact h50)
  rw [hL] at HGD HBD HLN
  clear h h5 h50 hlen hZ hbg hL
  go_enter Tryd.func30, Tryd.ntmps30
  go_wp2_with (first | (refine dwp_ldG (g := 2) (l := wsT) (HT.out _ (Keeps.refl _)) rfl _ rfl rfl ?_) | (go_at_call 49; refine (HBY.out _).mono ?_; rintro _ w1 ⟨rfl, k1⟩; have HK1 := Lib.hid k1; have q0 := (HX.out.keeps k1).cell 0 rfl; have q1 := (HX.out.keeps k1).cell 1 rfl; clear k1))
  go_loopw [5, 6] (fun v rest wr => ∃ R acc, rest = .string (st R) ∧ TgK w1 L R acc v wr) (fun _ rest _ => dsLen rest)
  case atStart => exact ⟨L, [], by rw [← HSB.out], ⟨rfl, by simp, HL5.out, by simp, OwnE.nil _ _, Keeps.refl _⟩⟩
  case round =>
    obtain ⟨R, acc, rfl, hK⟩ := hrel
    have HK := Lib.hid hK
    have hRl : R.length ≤ L.length := by have := hK.len; omega
    obtain ⟨S, hS⟩ : ∃ S, st R = S := ⟨_, rfl⟩
    have hSl : ls S = R := by rw [← hS, ls_st]
    have hSz : S.size = R.length := by rw [← hS, st_size]
    rw [hS]
    clear hK
    by_cases h0 : R = []
    · subst h0
      have hE2 : S.toList.isEmpty = true := by rw [ls_toList, hSl]; rfl
      have hrd : rdTs L = acc := by rw [HK.out.sp]; exact List.append_nil _
      have HF := Lib.hid (HGD.out ⟨by rw [hrd]; exact HK.out.ok, by rw [HLN.out]; exact HZB.out⟩)
      have HO := Lib.hid (EtPost.yes (q := rts ⟨15, body⟩) (l := acc) (by rw [HF.out, hrd]) HK.out.own ((HKA.out.trans HK1.out).trans HK.out.kp))
      clear hSl hSz hrd hS
      go_wp2
      go_ret2
      exact HO.out
    · have hE2 : S.toList.isEmpty = false := by
        rw [ls_toList, hSl]
        cases R with
        | nil => exact absurd rfl h0
        | cons _ _ => rfl
      obtain ⟨a, b, c, d, e, r, hR⟩ := five_dst h0 HK.out.md
      have hSz5 : 5 ≤ S.size := by rw [hSz, hR]; simp
      have HRD := Lib.hid (fun W => dread_any (ws := wsT) rfl gn_T rfl (by decide) (S := S) (by show 40 / 8 ≤ S.size; omega) (by omega) W)
      rw [hSl, hR, rdT] at HRD
      have HOF := Lib.hid (fun W => tof_any a b c d e W)
      have HWR := Lib.hid (fun W => twrong_any ⟨a, b, c, d, (e.toNat : Int)⟩ W)
      have hrr : rdTs R = ⟨a, b, c, d, (e.toNat : Int)⟩ :: rdTs r := by rw [hR]; show rdTs (a :: b :: c :: d :: e :: r) = _; rw [rdTs]
      obtain ⟨V, hV⟩ : ∃ V, S.extract 5 S.size = V := ⟨_, rfl⟩
      have HV := Lib.hid (show V = st r by rw [← hV, ds_from, hSl, hR]; rfl)
      have HVZ := Lib.hid (show V.size < S.size by rw [← hV, ByteArray.size_extract]; omega)
      have i5 : (5 : Int) ≤ (S.size : Int) := by omega
      have HTW := Lib.hid (HT.out wr (HK1.out.trans HK.out.kp))
      have hal : acc.length ≤ 100000000 := by have := HK.out.len; omega
      have HRL := Lib.hid (show r.length + 5 = R.length by rw [hR]; simp)
      have HRR := Lib.hid hrr
      clear hSl hSz hR hrr h0 hRl hS
      by_cases hok : okT ⟨a, b, c, d, (e.toNat : Int)⟩
      · have HNX := Lib.hid (show ∀ v' W, OwnE rowTg W w1.heap.size v' (acc ++ [⟨a, b, c, d, (e.toNat : Int)⟩]) → Keeps w1 W → TgK w1 L r (acc ++ [⟨a, b, c, d, (e.toNat : Int)⟩]) v' W from fun v' W o k => ⟨by rw [HK.out.sp, HRR.out, List.append_assoc]; rfl, fun x hx => by
          rcases List.mem_append.1 hx with q | q
          · exact HK.out.ok x q
          · rw [List.mem_singleton.1 q]; exact hok, by have := HK.out.md; have := HRL.out; omega, by have := HK.out.len; have := HRL.out; rw [List.length_append, List.length_singleton]; omega, o, k⟩)
        rw [decide_eq_true hok] at HWR
        clear hok
        go_wp2_with (first | (refine dwp_ldG (g := 2) (l := wsT) HTW.out rfl _ rfl rfl ?_) | (go_at_call 50; refine (HRD.out _).mono ?_; rintro _ w2 ⟨rfl, k2⟩; have HK2 := Lib.hid (HK.out.kp.trans k2); have HO2 := Lib.hid (HK.out.own.keeps k2); clear k2) | (go_at_call 53; refine (HOF.out _).mono ?_; rintro _ w3 ⟨rfl, k3⟩; obtain ⟨c0, hc0⟩ : ∃ c, w3.heap.size = c := ⟨_, rfl⟩; obtain ⟨wC, hwC⟩ : ∃ W, w3.alloc (.cells #[.int .u8 0, .int .u8 0, .int .u8 0, .int .u8 0, .int .i64 0] 67) = W := ⟨_, rfl⟩; have HC := Lib.hid (show CsAns w3 c0 (tgC ⟨0, 0, 0, 0, 0⟩) wC from ⟨(by rw [← hc0, ← hwC]; exact CsAt.made w3 #[.int .u8 0, .int .u8 0, .int .u8 0, .int .u8 0, .int .i64 0] _ (by simp)), (by rw [← hwC]; exact (Keeps.refl w3).alloc _), (by omega)⟩); obtain ⟨wD, hwD⟩ : ∃ W, wC.setCells c0 0 (tgC ⟨a, b, c, d, (e.toNat : Int)⟩) = W := ⟨_, rfl⟩; have hD := HC.out.ends (tgC ⟨a, b, c, d, (e.toNat : Int)⟩) rfl; rw [hwD] at hD; have HD := Lib.hid hD; have HKD := Lib.hid ((HK2.out.trans k3).trans hD.k); have HOD := Lib.hid ((HO2.out.keeps k3).keeps hD.k); clear k3 hD) | (refine wp_stTg (b := c0) (off := 0) ⟨a, b, c, d, (e.toNat : Int)⟩ (HC.out.z.there (by decide)) rfl _ _ rfl rfl rfl ?_; rw [hwD]) | (refine wp_ldTg (b := c0) (off := 0) HD.out.z.r rfl _ rfl rfl ?_) | (go_at_call 51; refine (HWR.out _).mono ?_; rintro _ w5 ⟨rfl, k5⟩; have HK5 := Lib.hid (HKD.out.trans k5); have HO5 := Lib.hid (HOD.out.keeps k5); have HD5 := Lib.hid (HD.out.z.keeps k5); clear k5) | (refine wp_ldTg (b := c0) (off := 0) HD5.out.r rfl _ rfl rfl ?_) | (at_builtin; refine wp_pushE (T := rowTg) rfl _ _ rfl ⟨a, b, c, d, (e.toNat : Int)⟩ _ rfl w5.heap.size rfl HO5.out rfl rfl hal (Below.size HK5.out) _ ?_; intro v6 w6 o6 g6 _; have HO6 := Lib.hid o6; have HK6 := Lib.hid ((HK5.out.alloc _).grown g6 HO5.out.block); clear o6 g6))
        go_roundw
        case rel => exact ⟨r, acc ++ [⟨a, b, c, d, (e.toNat : Int)⟩], by rw [HV.out], HNX.out _ _ HO6.out HK6.out⟩
        case measure => exact HVZ.out
      · have HF := Lib.hid (HBD.out (fun q => hok (q.1 _ (by rw [HK.out.sp, HRR.out]; exact List.mem_append_right _ (List.mem_cons_self ..)))))
        rw [decide_eq_false hok] at HWR
        clear hok
        go_wp2_with (first | (refine dwp_ldG (g := 2) (l := wsT) HTW.out rfl _ rfl rfl ?_) | (go_at_call 50; refine (HRD.out _).mono ?_; rintro _ w2 ⟨rfl, k2⟩; have HK2 := Lib.hid (HK.out.kp.trans k2); clear k2) | (go_at_call 53; refine (HOF.out _).mono ?_; rintro _ w3 ⟨rfl, k3⟩; obtain ⟨c0, hc0⟩ : ∃ c, w3.heap.size = c := ⟨_, rfl⟩; obtain ⟨wC, hwC⟩ : ∃ W, w3.alloc (.cells #[.int .u8 0, .int .u8 0, .int .u8 0, .int .u8 0, .int .i64 0] 67) = W := ⟨_, rfl⟩; have HC := Lib.hid (show CsAns w3 c0 (tgC ⟨0, 0, 0, 0, 0⟩) wC from ⟨(by rw [← hc0, ← hwC]; exact CsAt.made w3 #[.int .u8 0, .int .u8 0, .int .u8 0, .int .u8 0, .int .i64 0] _ (by simp)), (by rw [← hwC]; exact (Keeps.refl w3).alloc _), (by omega)⟩); obtain ⟨wD, hwD⟩ : ∃ W, wC.setCells c0 0 (tgC ⟨a, b, c, d, (e.toNat : Int)⟩) = W := ⟨_, rfl⟩; have hD := HC.out.ends (tgC ⟨a, b, c, d, (e.toNat : Int)⟩) rfl; rw [hwD] at hD; have HD := Lib.hid hD; have HKD := Lib.hid ((HK2.out.trans k3).trans hD.k); clear k3 hD) | (refine wp_stTg (b := c0) (off := 0) ⟨a, b, c, d, (e.toNat : Int)⟩ (HC.out.z.there (by decide)) rfl _ _ rfl rfl rfl ?_; rw [hwD]) | (refine wp_ldTg (b := c0) (off := 0) HD.out.z.r rfl _ rfl rfl ?_) | (go_at_call 51; refine (HWR.out _).mono ?_; rintro _ w5 ⟨rfl, k5⟩; have HK5 := Lib.hid (HKD.out.trans k5); clear k5))
        go_ret2
        exact EtPost.no HF.out ((HKA.out.trans HK1.out).trans HK5.out)
end Go.Proofs.YtlghkdkaifcliaaDoor
