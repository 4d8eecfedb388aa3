/-
  What adaptation, Encode and Empty of package packet answer. The memory that was there stays.
-/
import Derived.Test.YtaabfkffemnidaaDoorPkA
import Derived.Test.YtaabfkffemnidaaDoorBitsOut
import Derived.Test.YtaabfkffemnidaaDoorPkBits
namespace Go.Proofs.YtaabfkffemnidaaDoor
open Go.RowKit Gf Pk
set_option maxRecDepth 100000
theorem fil_take (n : Nat) : ((0 : UInt8) :: List.replicate n 255).take n = fil n := by
  unfold fil
  apply List.ext_getElem
  · simp
  · intro i h1 h2
    rw [List.getElem_take, List.getElem_map, List.getElem_range]
    cases i with
    | zero => rfl
    | succ i => rw [List.getElem_cons_succ, List.getElem_replicate, if_neg (by omega)]
def vsAd (n : Int) (q R Z F A : ByteArray) (γ : Nat) : List Value := [.int .i64 n, .int .u8 n, .slice (some ⟨γ, 0, none⟩) 1 1, .string q, .int .i64 n, .string R, .string Z, .int .i64 n, .string F, .string A, .string A]
theorem vsAd_a {n : Int} {q R Z F A : ByteArray} {γ δ : Nat} {L : Nat → Bool} (h : L 2 = false) : ∀ j, L j = true → (vsAd n q R Z F A δ).getD j undef = (vsAd n q R Z F A γ).getD j undef := by
  intro j hj
  have hn : j ≠ 2 := fun e => by rw [e, h] at hj; cases hj
  match j with
  | 0 => rfl | 1 => rfl | 2 => exact absurd rfl hn | 3 => rfl | 4 => rfl | 5 => rfl | 6 => rfl | 7 => rfl | 8 => rfl | 9 => rfl | 10 => rfl
  | _ + 11 => rfl
structure AdJ (w : World) (l : List UInt8) (γ : Nat) (L : Nat → Bool) (W : World) : Prop where
  kp : Keeps w W
  o2 : L 2 = true → Blk γ l W
theorem AdJ.on {w : World} {l : List UInt8} {γ : Nat} {L L' : Nat → Bool} {W W' : World} (h : AdJ w l γ L W) {i : Nat} (h2 : 2 ≠ i) (k : ∀ j, L' j = true ↔ (L j = true ∨ j = i)) (hk : Keeps W W') : AdJ w l γ L' W' :=
  ⟨h.kp.trans hk, fun x => (h.o2 (same_at k h2 ▸ x)).below hk⟩
theorem AdJ.same {w : World} {l : List UInt8} {γ : Nat} {L L' : Nat → Bool} {W : World} (h : AdJ w l γ L W) {i : Nat} (h2 : 2 ≠ i) (k : ∀ j, L' j = true ↔ (L j = true ∨ j = i)) : AdJ w l γ L' W := h.on h2 k (Keeps.refl W)
set_option maxHeartbeats 3200000 in
theorem pkadaptation_any (s : ByteArray) (hz : s.size ≤ 184) (w : World) : Calls Tryd.prog 30 #[.string s] w fun e w' => e = .returned (.string (st (adp s.size))) ∧ Keeps w w' := by
  by_cases h1 : s.size = 184
  · have e : st (adp s.size) = ⟨#[]⟩ := by unfold adp; rw [if_pos h1]; rfl
    rw [e]
    have hI : (s.size : Int) = 184 := by omega
    clear e h1 hz
    go_enter Tryd.func30, Tryd.ntmps30
    go_wp2
    go_ret
    exact ⟨rfl, Keeps.refl w⟩
  obtain ⟨n, hn⟩ : ∃ n, n = 183 - s.size := ⟨_, rfl⟩
  have hni : 183 - (s.size : Int) = (n : Int) := by omega
  have hn2 : n ≤ 183 := by omega
  have hI : ((s.size : Int) == 184) = false := by rw [beq_eq_false_iff_ne]; omega
  have HR := Lib.hid (fun W => repeat1 255 n W (by omega))
  obtain ⟨R, hR⟩ : ∃ R, st (List.replicate n 255) = R := ⟨_, rfl⟩
  have zR : R.size = n := by rw [← hR, st_size, List.length_replicate]
  simp only [hR] at HR
  obtain ⟨Z, hZ⟩ : ∃ Z, (⟨#[0]⟩ : ByteArray) ++ R = Z := ⟨_, rfl⟩
  have hZ2 : Z = st ((0 : UInt8) :: List.replicate n 255) := by rw [← hZ, ← hR, show (⟨#[0]⟩ : ByteArray) = st [0] from rfl, st_append]; rfl
  have zZ : Z.size = n + 1 := by rw [hZ2, st_size]; simp
  obtain ⟨F, hF⟩ : ∃ F, Z.extract 0 n = F := ⟨_, rfl⟩
  have hF2 : F = st (fil n) := by rw [← hF, ← st_ls (Z.extract 0 n), ls_part, hZ2, ls_st, List.drop_zero, Nat.sub_zero, fil_take]
  have zF : F.size = n := by rw [hF2, st_size, fil_length]
  obtain ⟨q, hq⟩ : ∃ q, st [UInt8.ofNat n] = q := ⟨_, rfl⟩
  have zq : q.size = 1 := by rw [← hq]; rfl
  obtain ⟨A, hA⟩ : ∃ A, q ++ F = A := ⟨_, rfl⟩
  have HE := Lib.hid (show A = st (adp s.size) by rw [← hA, ← hq, hF2, st_append]; unfold adp; rw [if_neg h1, ← hn]; rfl)
  rw [← HE.out]
  have hx : (UInt8.ofNat n).toNat = n := toNat_of (by omega)
  have HQ := Lib.hid hq
  have HCL := Lib.hid (show (#[.int .u8 (n : Int)] : Array Value) = ([UInt8.ofNat n].map B).toArray by show _ = #[B (UInt8.ofNat n)]; unfold B; rw [hx])
  have wr1 : IntKind.u8.wrap (n : Int) = (n : Int) := by rw [IntKind.wrap_u8]; omega
  have f1 : ¬ 9223372036854775807 < 1 + n := by omega
  have f3 : (n : Int) ≤ (n : Int) + 1 := by omega
  clear hq hF2 hZ2 hR hx h1 hn
  go_enter Tryd.func30, Tryd.ntmps30
  go_wp2
  refine wp_draw_h (Γ := Nat) (by kernel_rfl) (vsAd (n : Int) q R Z F A) (fun γ => AdJ w [UInt8.ofNat n] γ) rfl (by kernel_rfl) ?fin ?hfin 0 ⟨(Keeps.refl w).eqv (Eqv.drew w), fun x => by cases x⟩ ?each ?hend
  case hfin => intro γ; simp [vsAd, seqA, dstOf, Act.put]; rfl
  case each =>
    refine ⟨?_, ?_, ?_, ?_, ?_, ?_, ?_, ?_, ?_, ?_, ?_, trivial⟩
    all_goals intro γ L w5 h0 hd hs hw
    all_goals unfold Does
    all_goals try simp only [Nat.zero_add, Nat.reduceAdd] at h0
    rotate_left 3
    · have hcv := (hw.o2 (hd 2 (by kernel_rfl))).whole 1 (n := 1) rfl
      rw [HQ.out] at hcv
      go_simp
      exact Goes.on (fun _ => rfl) fun L' k => hw.same (by decide) k
    all_goals go_simp
    all_goals try exact Goes.on (fun _ => rfl) fun L' k => hw.same (by decide) k
    · refine (HR.out w5).mono ?_
      rintro e w6 ⟨rfl, hk⟩
      exact ⟨_, rfl, Goes.on (fun _ => rfl) fun L' k => hw.on (by decide) k hk⟩
    · refine ⟨w5.heap.size, vsAd_a h0, fun _ => rfl, fun L' k => ?_⟩
      exact ⟨hw.kp.trans ((Keeps.refl w5).alloc _), fun _ => by rw [HCL.out]; exact Blk.lit w5 [UInt8.ofNat n] _⟩
  case hend =>
    intro γ L w6 hL hw
    have HK6 := Lib.hid hw.kp
    clear hw hL
    go_wp2
    go_ret
    exact ⟨rfl, HK6.out⟩
end Go.Proofs.YtaabfkffemnidaaDoor
namespace Go.Proofs.YtaabfkffemnidaaDoor
open Go.RowKit Gf Pk Bit
set_option maxRecDepth 100000
/-- The fields as the array that the program lays. -/
def vcs (p : Pkt) : List Value := (vls8 p).map fun x : Nat => .int .i64 (x : Int)
theorem vcs_one (p : Pkt) : ∀ v ∈ vcs p, v.oneCell' = true := by
  intro v hv
  unfold vcs at hv
  obtain ⟨x, _, rfl⟩ := List.mem_map.1 hv
  rfl
theorem vls8_get {p : Pkt} (h : okP p) {k : Nat} (hk : k < 8) : ∃ x n : Nat, (vls8 p).getD k 0 = x ∧ wds.getD k 0 = n ∧ (vcs p)[k]? = some (.int .i64 (x : Int)) ∧ wdC[k]? = some (.int .i64 (n : Int)) ∧ x ≤ 8191 ∧ n ≤ 13 := by
  have hb := bn_le p.bad
  have hs := bn_le p.start
  have hh := how_le p.body.size
  obtain ⟨⟨k1, k2⟩, k3, k4⟩ := h
  have hk' : k = 0 ∨ k = 1 ∨ k = 2 ∨ k = 3 ∨ k = 4 ∨ k = 5 ∨ k = 6 ∨ k = 7 := by omega
  rcases hk' with rfl | rfl | rfl | rfl | rfl | rfl | rfl | rfl
  all_goals (refine ⟨_, _, rfl, rfl, rfl, rfl, ?_, by decide⟩; simp [vls8]; try omega)
theorem index8 {l : List Value} {ns : List Int} (hl : l = ns.map fun x => .int .i64 x) (hn : ns.length = 8) {k : Nat} (hk : k < 8) {v : Value} (h : l[k]? = some v) (w : World) :
    (Instr.index 67 (.agg l.toArray) (.int .i64 (k : Int))).run Tryd.prog w = .ok v w := by
  subst hl
  match ns, hn with
  | [a0, a1, a2, a3, a4, a5, a6, a7], _ =>
    have hk' : k = 0 ∨ k = 1 ∨ k = 2 ∨ k = 3 ∨ k = 4 ∨ k = 5 ∨ k = 6 ∨ k = 7 := by omega
    rcases hk' with rfl | rfl | rfl | rfl | rfl | rfl | rfl | rfl
    all_goals
      simp at h
      subst h
      simp [Instr.index, run_underlying Tryd.underlying67, asIntOf, Tryd.sizeOf3, part, Tryd.isAgg3]
theorem wd_ints : wdC = ([8, 1, 1, 1, 13, 2, 2, 4] : List Int).map fun x => .int .i64 x := rfl
theorem sz8 : (Tryd.prog.info? 67).map (·.size) = some 8 := by kernel_rfl
/-- Put, its number by a name. -/
theorem pkput_at {b : Nat} {L : List Bool} {w : World} (h : OutAt b L w) {x n : Nat} (hx : x ≤ 8191) (hn : n ≤ 13) (hL : L.length + n ≤ 1000000) :
    Calls Tryd.prog 28 #[.pointer (some ⟨b, 0, none⟩), .int .u64 (x : Int), .int .i64 (n : Int)] w fun e w' => e = .returned (.int .i64 0) ∧ OutAt b (L ++ lb x n) w' ∧ Only b w w' :=
  put_ok h x n (Nat.lt_of_le_of_lt hx (by decide)) (by omega) hL
/-- Text of two strings, as a call lays its row. -/
theorem otext_two {b : Nat} {L : List Bool} {W : World} (h : OutAt b L W) (s t : ByteArray) (hL : L.length + 8 * (s.size + t.size) ≤ 1000000) :
    Calls Tryd.prog 29 #[.pointer (some ⟨b, 0, none⟩), .slice (some ⟨W.heap.size, 0, none⟩) 2 2] (W.alloc (.cells #[.string s, .string t] 9)) fun e w' => (∃ v, e = .returned v) ∧ OutAt b (L ++ ob (ls s ++ ls t)) w' ∧ Only b W w' := by
  have hb := OutR.old h
  have hk := Keeps.alloc (Keeps.refl W) (.cells #[.string s, .string t] 9)
  have hfl : [ls s, ls t].flatten = ls s ++ ls t := by simp
  have := otext_any (cap := 2) (OutR.keeps h hk) [ls s, ls t] (IsT.two W s t 9) (fun x e => by cases e; show W.heap.size ≠ b; omega) (by omega) (by rw [hfl, List.length_append, ← ls_size, ← ls_size]; exact hL)
  rw [hfl] at this
  exact this.mono fun e w' hh => ⟨hh.1, hh.2.1, (Only.below hk).trans hh.2.2⟩
theorem Once.cs {w2 w5 : World} {X : Obj} {L : Nat → Bool} {b i : Nat} {cs : List Value} (hw : Once i (Eqv w2) (Eqv (w2.alloc X)) L w5) (h : CsAt b cs w2) : CsAt b cs w5 := by
  cases e : L i
  · exact h.eqv (hw.1 e)
  · exact (h.keeps ((Keeps.refl w2).alloc X)).eqv (hw.2 e)
def pkeRel (w0 : World) (b bv bo : Nat) (Lp : Nat → List Bool) (cs vs : List Value) (x : Value) (wr : World) : Prop := ∃ k : Nat, k ≤ 8 ∧ x = .int .i64 (k : Int) ∧ OutAt bo (Lp k) wr ∧ CsAt b cs wr ∧ CsAt bv vs wr ∧ Keeps w0 wr
set_option maxHeartbeats 6400000 in
theorem pkencode_any (p : Pkt) (w : World) (hW : Wd w) (hz : p.body.size ≤ 1000000) : Calls Tryd.prog 14 #[pkV p] w fun e w' => e = .returned (.tuple #[.string (st (ecP p).1), .int .i64 (ecP p).2]) ∧ Keeps w w' := by
  obtain ⟨b, hb⟩ : ∃ b, w.heap.size = b := ⟨_, rfl⟩
  obtain ⟨wA, hA⟩ : ∃ wX, w.alloc (.cells #[.int .i64 p.pid, .bool p.start, .int .i64 p.count, .bool p.bad, .string p.body] 27) = wX := ⟨_, rfl⟩
  have HA := Lib.hid (show CsAt b (pkC p) wA by rw [← hb, ← hA]; exact CsAt.made w #[.int .i64 p.pid, .bool p.start, .int .i64 p.count, .bool p.bad, .string p.body] _ (by simp))
  have HK := Lib.hid (show Keeps w wA by rw [← hA]; exact (Keeps.refl w).alloc _)
  have HW := Lib.hid (hW.keeps HK.out)
  have HCK := Lib.hid (pkcheck_any p wA HW.out)
  have HMB := Lib.hid (show w.heap.size ≤ b by omega)
  clear hW
  by_cases hc : ckP p = 0
  · rw [hc] at HCK
    rw [ecP_ok hc]
    obtain ⟨hok, hz2⟩ := ckP_good hc
    have HOK := Lib.hid hok
    obtain ⟨⟨y1, y2⟩, y3, y4⟩ := hok
    have HP := Lib.hid (fbs_pack HOK.out)
    have hsz : ∀ i, i < 8 → ∃ x n : Nat, (vls8 p).getD i 0 = x ∧ wds.getD i 0 = n ∧ (vcs p)[i]? = some (.int .i64 (x : Int)) ∧ wdC[i]? = some (.int .i64 (n : Int)) ∧ x ≤ 8191 ∧ n ≤ 13 := fun i hi => vls8_get HOK.out hi
    have HG := Lib.hid hsz
    have HFO := Lib.hid (fun W => pkfollows_any p.body W)
    have HB1 := Lib.hid (fun W => pkbit_any p.bad W)
    have HB2 := Lib.hid (fun W => pkbit_any p.start W)
    have HAD := Lib.hid (fun W => pkadaptation_any p.body hz2 W)
    obtain ⟨AD, hAD⟩ : ∃ AD, st (adp p.body.size) = AD := ⟨_, rfl⟩
    have HAL := Lib.hid (show ls AD = adp p.body.size by rw [← hAD, ls_st])
    have HAZ := Lib.hid (show AD.size ≤ 184 by rw [ls_size, HAL.out, adp_length hz2]; omega)
    simp only [hAD] at HAD
    have HFL := Lib.hid (fun k (hk : k ≤ 8) => fbs_length p hk)
    have HNX := Lib.hid (fbs_next p)
    have HVC := Lib.hid (show vcs p = [.int .i64 71, .int .i64 (bn p.bad : Int), .int .i64 (bn p.start : Int), .int .i64 0, .int .i64 p.pid, .int .i64 0, .int .i64 (how p.body.size : Int), .int .i64 p.count] by
      unfold vcs vls8
      simp only [List.map_cons, List.map_nil]
      rw [show ((p.pid.toNat : Nat) : Int) = p.pid by omega, show ((p.count.toNat : Nat) : Int) = p.count by omega]; rfl)
    obtain ⟨fo, hfo⟩ : ∃ fo, (how p.body.size : Int) = fo := ⟨_, rfl⟩
    obtain ⟨bb, hbb⟩ : ∃ fo, (bn p.bad : Int) = fo := ⟨_, rfl⟩
    obtain ⟨bs, hbs⟩ : ∃ fo, (bn p.start : Int) = fo := ⟨_, rfl⟩
    simp only [hfo, hbb, hbs] at HFO HB1 HB2 HVC
    clear hc y1 y2 y3 y4 hsz hAD hfo hbb hbs
    obtain ⟨B, hB⟩ : ∃ B, st (bts p) = B := ⟨_, rfl⟩
    rw [hB]
    have HBB := Lib.hid (show st (pack (fbs p 8 ++ ob (ls AD ++ ls p.body))) = B by rw [HAL.out, HP.out, hB])
    obtain ⟨Lp, hLp⟩ : ∃ L, fbs p = L := ⟨_, rfl⟩
    obtain ⟨VC, hVC⟩ : ∃ L, vcs p = L := ⟨_, rfl⟩
    obtain ⟨vs, hvs⟩ : ∃ L, vls8 p = L := ⟨_, rfl⟩
    have HL0 := Lib.hid (show Lp 0 = [] by rw [← hLp]; exact fbs_zero p)
    have HON := Lib.hid (show ∀ v ∈ VC, v.oneCell' = true by rw [← hVC]; exact vcs_one p)
    simp only [hLp, hVC, hvs] at HG HFL HNX HVC HBB
    clear hLp hVC hvs HP HOK HAL hB
    obtain ⟨pid, start, count, bad, body⟩ := p
    simp only at hA HFO HB1 HB2 HAD HBB hz hz2 HVC
    go_enter Tryd.func14, Tryd.ntmps14
    go_wp2_with (first | (refine wp_ldP (b := b) (off := 0) HA.out.r rfl _ rfl rfl ?_) | (go_at_call 25; refine HCK.out.mono ?_; rintro _ w2 ⟨rfl, k1⟩; have HA2 := Lib.hid (HA.out.keeps k1); have HK2 := Lib.hid (HK.out.trans k1); have HW2 := Lib.hid (HW.out.keeps k1); clear k1))
    obtain ⟨X, hX⟩ : ∃ X : Obj, X = .cells #[.int .i64 0, .int .i64 0, .int .i64 0, .int .i64 0, .int .i64 0, .int .i64 0, .int .i64 0, .int .i64 0] 67 := ⟨_, rfl⟩
    have HXX := Lib.hid hX
    clear hX
    refine wp_draw_tail 15 (by kernel_rfl)
      [.pointer (some ⟨b, 3, none⟩), .bool bad, .int .i64 bb, .pointer (some ⟨b, 1, none⟩), .bool start, .int .i64 bs, .pointer (some ⟨b, 0, none⟩), .int .i64 pid, .pointer (some ⟨b, 4, none⟩), .string body, .int .i64 fo, .pointer (some ⟨b, 2, none⟩), .int .i64 count, .agg #[.int .i64 71, .int .i64 bb, .int .i64 bs, .int .i64 0, .int .i64 pid, .int .i64 0, .int .i64 fo, .int .i64 count], .pointer (some ⟨w2.heap.size, 0, none⟩)]
      (Once 14 (Eqv w2) (Eqv (w2.alloc X)))
      rfl (by kernel_rfl) (by kernel_rfl) (fin := ?fin) ?hfin (Once.start (Eqv.drew w2)) ?each ?hend
    case hfin => simp [seqA, dstOf, Act.put]; rfl
    case each =>
      refine ⟨?_, ?_, ?_, ?_, ?_, ?_, ?_, ?_, ?_, ?_, ?_, ?_, ?_, ?_, ?_, trivial⟩
      all_goals intro L w5 h0 hd hs hw
      all_goals unfold Does
      all_goals try simp only [Nat.zero_add, Nat.reduceAdd] at h0
      rotate_left 14
      · have hA := hw.1 h0
        have hz := hA.size
        go_simp
        exact fun L' k => Once.done k (by rw [HXX.out]; exact hA.alloc _)
      all_goals have hcs := hw.cs HA2.out
      all_goals have q0 := hcs.cell 0 rfl
      all_goals have q1 := hcs.cell 1 rfl
      all_goals have q2 := hcs.cell 2 rfl
      all_goals have q3 := hcs.cell 3 rfl
      all_goals have q4 := hcs.cell 4 rfl
      all_goals clear hcs
      all_goals go_simp
      all_goals first
        | exact fun L' k => hw.same (by decide) k
        | ((with_reducible refine (HB1.out _).mono ?_); rintro e w6 ⟨rfl, rfl⟩; exact ⟨_, rfl, rfl, fun L' k => hw.same (by decide) k⟩)
        | ((with_reducible refine (HB2.out _).mono ?_); rintro e w6 ⟨rfl, rfl⟩; exact ⟨_, rfl, rfl, fun L' k => hw.same (by decide) k⟩)
        | ((with_reducible refine (HFO.out _).mono ?_); rintro e w6 ⟨rfl, rfl⟩; exact ⟨_, rfl, rfl, fun L' k => hw.same (by decide) k⟩)
    case hend =>
    intro L w5 hL hw
    obtain ⟨w3, rfl, he⟩ := (hw.2 (hL 14 (by omega))).split
    clear hL hw
    rw [← he.size]
    simp only [List.drop_succ_cons, List.drop_zero]
    have HA3 := Lib.hid (HA2.out.eqv he)
    have HK3 := Lib.hid (HK2.out.eqv he)
    have HW3 := Lib.hid (HW2.out.eqv he)
    clear he
    have hCl : VC.length = 8 := by rw [HVC.out]; rfl
    have hCo : VC.toArray.all (·.oneCell') = true := all_oneCell_toArray HON.out
    have hCz : VC.toArray.size = 8 := by rw [List.size_toArray, hCl]
    have ht3 : (w3.alloc X).there w3.heap.size 0 8 := by
      rw [HXX.out]
      intro j hj
      rw [Nat.zero_add]
      exact ⟨by rw [World.cell?_alloc_new]; simp; omega, World.frozen?_alloc_new _ _ _ _⟩
    have r4 := World.rangeAt_setCells_same (w3.alloc X) w3.heap.size 0 VC (by rw [hCl]; exact ht3)
    have hk4 := (only_setCells w3.heap.size VC 0 (w3.alloc X)).keeps ((Keeps.refl w3).alloc X) (Nat.le_refl _)
    have hz4 : w3.heap.size + 1 ≤ ((w3.alloc X).setCells w3.heap.size 0 VC).heap.size := by have := (only_setCells w3.heap.size VC 0 (w3.alloc X)).size; rwa [World.size_alloc] at this
    have hfz : ∀ i, i < VC.length → ((w3.alloc X).setCells w3.heap.size 0 VC).frozen? ⟨w3.heap.size, i, none⟩ = false := fun i _ => by rw [World.frozen?_setCells, HXX.out]; exact World.frozen?_alloc_new _ _ _ _
    refine wpList_store_mid rfl 67 _ _ rfl w3.heap.size 0 VC.toArray rfl (by rw [HVC.out]; rfl) (by rw [hCz]; exact ht3) (by rw [hCz]; exact sz8) hCo ?_
    obtain ⟨w4, hw4⟩ : ∃ w4, (w3.alloc X).setCells w3.heap.size 0 VC = w4 := ⟨_, rfl⟩
    have k34 : Keeps w3 w4 := by rw [← hw4]; exact hk4
    rw [hw4] at r4 hz4 hfz
    rw [show (w3.alloc X).setCells w3.heap.size 0 VC.toArray.toList = w4 from hw4]
    have hV4 : CsAt w3.heap.size VC w4 := ⟨r4, hfz, fun e => by rw [e] at hCl; cases hCl⟩
    clear hk4 hCo ht3 hCz r4 hfz
    have hO5 := out_zero w4
    obtain ⟨w5, hw5⟩ : ∃ w5, w4.alloc (.cells zout 73) = w5 := ⟨_, rfl⟩
    have k45 : Keeps w4 w5 := by rw [← hw5]; exact (Keeps.refl w4).alloc _
    rw [hw5] at hO5
    have hA5 := (HA3.out.keeps k34).keeps k45
    have hV5 := hV4.keeps k45
    have hK5 := (HK3.out.trans k34).trans k45
    have HW5 := Lib.hid ((HW3.out.keeps k34).keeps k45)
    have hob := HA3.out.old
    obtain ⟨bo, hbo⟩ : ∃ bo, w4.heap.size = bo := ⟨_, rfl⟩
    rw [hbo] at hO5
    have hne : b ≠ bo := by omega
    have hnv : w3.heap.size ≠ bo := by omega
    have hmo : w.heap.size ≤ bo := by have := Below.size HK3.out; omega
    have HIX := Lib.hid (fun (k : Nat) (hk : k < 8) (v : Value) (h : wdC[k]? = some v) => index8 wd_ints rfl hk h)
    have HO5 := Lib.hid hO5
    have HA5 := Lib.hid hA5
    have HV5 := Lib.hid hV5
    have HK5 := Lib.hid hK5
    have HNE := Lib.hid hne
    have HNV := Lib.hid hnv
    have HMO := Lib.hid hmo
    clear k34 k45 hO5 hA5 hV5 hV4 hK5 hne hnv hmo hCl hz4 hob hw4
    go_wp2_with (first | (with_reducible refine wpList_allocZ infoOut rfl rfl ?_; rw [hw5, hbo]) | (refine wpList_load_mid rfl 67 _ rfl 0 0 rfl wdC _ HW5.out Tryd.underlying67 rfl sz8 ?_))
    go_loopw [29] (fun x wr => pkeRel w b w3.heap.size bo Lp [.int .i64 pid, .bool start, .int .i64 count, .bool bad, .string body] VC x wr) (fun x _ => 8 - (intOf x).toNat)
    case atStart => exact ⟨0, by omega, rfl, by rw [HL0.out]; exact HO5.out, HA5.out, HV5.out, HK5.out⟩
    case round =>
      obtain ⟨k, hk, rfl, hO, hAr, hVr, hKr⟩ := hrel
      have HO := Lib.hid hO
      have HAr := Lib.hid hAr
      have HVr := Lib.hid hVr
      have HKr := Lib.hid hKr
      clear hO hAr hVr hKr
      by_cases hlt : k < 8
      · obtain ⟨x, n, g1, g2, g3, g4, g5, g6⟩ := HG.out k hlt
        have hix := HIX.out k hlt _ g4
        have hcv := HVr.out.cell k g3
        have HT := Lib.hid (show Lp k ++ lb x n = Lp (k + 1) by rw [← g1, ← g2]; exact HNX.out k)
        have HL := Lib.hid (HFL.out k hk)
        have hkI : (k : Int) < 8 := by omega
        have wr1 : IntKind.u64.wrap (x : Int) = (x : Int) := by rw [IntKind.wrap_u64]; omega
        clear g1 g2 g3 g4
        go_wp2_with (first | (go_at_call 28; refine (pkput_at HO.out g5 g6 (by have := HL.out; omega)).mono ?_; rintro _ w6 ⟨rfl, hO6, k6⟩))
        go_roundw
        case rel => exact ⟨k + 1, by omega, by go_num, by rw [← HT.out]; exact hO6, HAr.out.only HNE.out k6, HVr.out.only HNV.out k6, k6.keeps HKr.out HMO.out⟩
        case measure => simp [intOf]; omega
      · obtain rfl : k = 8 := by omega
        have hkI : ¬ ((8 : Nat) : Int) < 8 := by decide
        have HL := Lib.hid (HFL.out 8 (Nat.le_refl 8))
        go_wp2
        refine wp_draw_tail 5 (by kernel_rfl)
          [.pointer (some ⟨b, 4, none⟩), .string body, .string AD, .pointer (some ⟨b, 4, none⟩), .string body]
          (fun _ W => Keeps wr W)
          rfl (by kernel_rfl) (by kernel_rfl) (fin := ?finT) ?hfinT ((Keeps.refl wr).eqv (Eqv.drew wr)) ?eachT ?hendT
        case hfinT => simp [seqA, dstOf, Act.put]; rfl
        case eachT =>
          refine ⟨?_, ?_, ?_, ?_, ?_, trivial⟩
          all_goals intro L w6 h0 hd hs hw
          all_goals unfold Does
          all_goals have q4 := (HAr.out.keeps hw).cell 4 rfl
          all_goals go_simp
          all_goals first
            | exact fun L' k => hw
            | (refine (HAD.out _).mono ?_; rintro e w7 ⟨rfl, k7⟩; exact ⟨_, rfl, rfl, fun L' k => hw.trans k7⟩)
        case hendT =>
        intro L w6 hL hw
        clear hL
        have HO6 := Lib.hid (OutR.keeps HO.out hw)
        have HK6 := Lib.hid (HKr.out.trans hw)
        clear hw
        simp only [List.drop_succ_cons, List.drop_zero]
        go_wp2_with (first | (go_at_call 29; refine (otext_two HO6.out AD body (by have := HL.out; have := HAZ.out; omega)).mono ?_; rintro _ w7 ⟨⟨v7, rfl⟩, hO7, k7⟩; have HO7 := Lib.hid hO7; have HK7 := Lib.hid (k7.keeps HK6.out HMO.out); clear hO7 k7) | (go_at_call 31; refine (string_any HO7.out (by rw [List.length_append, ob_length, List.length_append, ← ls_size, ← ls_size]; have := HL.out; have := HAZ.out; omega)).mono ?_; rintro _ w8 ⟨rfl, k8⟩; rw [HBB.out]))
        go_ret2
        exact ⟨rfl, HK7.out.trans k8⟩
  · have HEN := ecP_no hc
    have hcb : (ckP p != 0) = true := by simpa using hc
    rw [HEN]
    obtain ⟨r, hr⟩ : ∃ r, ckP p = r := ⟨_, rfl⟩
    rw [hr] at HCK hcb ⊢
    have hst : st [] = ⟨#[]⟩ := rfl
    rw [hst]
    clear hc hr HEN hst hz
    obtain ⟨pid, start, count, bad, body⟩ := p
    simp only at hA
    go_enter Tryd.func14, Tryd.ntmps14
    go_wp2_with (first | (refine wp_ldP (b := b) (off := 0) HA.out.r rfl _ rfl rfl ?_) | (go_at_call 25; refine HCK.out.mono ?_; rintro _ w1 ⟨rfl, k1⟩))
    go_ret2
    exact ⟨rfl, HK.out.trans k1⟩
/-- The packet that is nothing. -/
def emP : Pkt := ⟨8191, false, 0, false, st (List.replicate 184 255)⟩
theorem emP_ck : ckP emP = 0 := by decide
end Go.Proofs.YtaabfkffemnidaaDoor
