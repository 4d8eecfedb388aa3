/-
  For any strings and any number MendErased returns true: of a word of which 64 bytes are lost all come back, and with 64 lost any text is mended to a word; nothing that was there is changed. No condition.
-/
import Derived.Test.YtdlcloenihkkgaaRows
import Derived.Test.YtdlcloenihkkgaaMendLaw
import Derived.Deep.RegionWith
import Derived.OpenShut
import Derived.ShutString
import Derived.ChangeOld
import Derived.Carry
import Derived.WalkLawsBesides
namespace Go.Proofs.Ytdlcloenihkkgaa.mendErased
open Go.ChangeShapes Go.WideShapes Go.ChangeAt Go.RowKit Gf
set_option maxRecDepth 100000
open Go.ChangeMaps (open_string shut_string)
set_option linter.unusedVariables false
set_option maxRecDepth 100000 in
set_option maxHeartbeats 4000000 in
theorem off (d u : ByteArray) (f : Int) (w : World) (h : 191 < (d.size : Int) ∨ ((d.size : Int) ≤ 191 ∧ 64 < (u.size : Int)) ∨ ((d.size : Int) ≤ 191 ∧ (u.size : Int) ≤ 64 ∧ f < 0) ∨ ((d.size : Int) ≤ 191 ∧ (u.size : Int) ≤ 64 ∧ 0 ≤ f ∧ 254 < f)) :
    Calls Try.prog 8 #[.string d, .int .i64 f, .string u] w fun e w' => e = .returned (.bool true) ∧ Keeps w w' := by
  rcases h with h | ⟨h1, h⟩ | ⟨h1, h2, h⟩ | ⟨h1, h2, h3, h⟩
  all_goals
    go_enter Try.func8, Try.ntmps8
    go_wp2_with fail
    refine (awake4_any w _ (Keeps.refl w)).mono ?_
    rintro e wk1 ⟨rfl, hk1⟩
    go_wp2
    go_ret
    exact ⟨rfl, hk1⟩
/-- What holds behind k places. -/
def erRel (w wB : World) (b : Nat) (v : List UInt8) (f : Int) (lv i : Value) (wr : World) : Prop :=
  ∃ (k : Nat) (r : List UInt8), k ≤ 64 ∧ i = .int .i64 (k : Int) ∧ OwnI wr wB.heap.size lv (ring f k) ∧ Blk b r wr ∧ r.length = 255 ∧ (∀ j : Nat, (j : Int) ∉ ring f k → cf r j = cf v j) ∧ Keeps w wr ∧ wB.heap.size ≤ wr.heap.size
theorem er_next {f : Int} {k : Nat} {r v : List UInt8} (y : UInt8) (hr : r.length = 255) (h : ∀ j : Nat, (j : Int) ∉ ring f k → cf r j = cf v j) {p : Nat} (hp : (f + (k : Nat)) % 255 = (p : Int)) :
    ∀ j : Nat, (j : Int) ∉ ring f (k + 1) → cf (r.set p y) j = cf v j := fun j hj => by
  rw [ring_succ, List.mem_append, not_or, List.mem_singleton, hp] at hj
  rw [cf_set _ _ _ (by rw [hr]; omega), if_neg (by omega)]
  exact h j hj.1
set_option maxRecDepth 100000 in
set_option maxHeartbeats 4000000 in
theorem core (d u : ByteArray) (f : Int) (w : World) (h0 : (d.size : Int) ≤ 191) (h1 : (u.size : Int) ≤ 64) (h2 : 0 ≤ f) (h3 : f ≤ 254) :
    Calls Try.prog 8 #[.string d, .int .i64 f, .string u] w fun e w' => e = .returned (.bool true) ∧ Keeps w w' := by
  have HF1 := Lib.hid (show (st (ls d ++ z8 (191 - d.size))).size = 191 by rw [st_size, List.length_append, z8_len, ← ls_size]; omega)
  have hst := st_toList
  go_enter Try.func8, Try.ntmps8
  go_wp2_with fail
  refine (full_any w _ 191 _ (by omega) (by omega) (Keeps.refl w)).mono ?_
  rintro e wk1 ⟨rfl, hk1⟩
  go_wp2_with fail
  refine (word_any w _ _ HF1.out hk1).mono ?_
  rintro e wk2 ⟨p, rfl, hp, hw1, hk2⟩
  clear hk1
  obtain ⟨v, hv⟩ : ∃ v, ls (st (ls d ++ z8 (191 - d.size))) ++ p = v := ⟨_, rfl⟩
  rw [hv] at hw1
  rw [show (fun p => ls (st (ls d ++ z8 (191 - d.size))) ++ p) p = v from hv]
  have hvl := hw1.1
  have HW := Lib.hid hw1
  have e1 : (st v).size = 255 := by rw [st_size]; exact hvl
  have hcb := Lib.run_convert_string_bytes (P := Try.prog) wk2 9 34 5 (st v) Try.underlying9 Try.underlying34 Try.underlying5
  rw [e1] at hcb
  have HBK := Lib.hid (show Blk wk2.heap.size v (Lib.bytesWorld wk2 5 (st v)) by have := Blk.bytes wk2 (st v); rwa [ls_st] at this)
  have HKB := Lib.hid (hk2.trans (Lib.bytesWorld_below wk2 5 (st v)))
  have hsz0 := Below.size hk2
  obtain ⟨cb, hcbE⟩ : ∃ cb, grownCap wk2 255 0 5 = cb := ⟨_, rfl⟩
  have hcb2 : 255 ≤ cb := by rw [← hcbE]; exact grownCap_ge _ _ _ _
  rw [hcbE] at hcb
  obtain ⟨wB, hwB⟩ : ∃ wB, Lib.bytesWorld wk2 5 (st v) = wB := ⟨_, rfl⟩
  rw [hwB] at hcb HBK HKB
  clear hv hw1 hp hk2 hwB hcbE
  go_wp2
  obtain ⟨b, hb⟩ : ∃ b, wk2.heap.size = b := ⟨_, rfl⟩
  rw [hb] at HBK hsz0
  rw [hb]
  clear hcb
  have hbB := HBK.out.old
  go_loopw [10, 11] (fun lv i wr => erRel w wB b v f lv i wr) (fun _ i _ => 64 - (intOf i).toNat)
  case atStart => exact ⟨0, v, by omega, rfl, OwnI.nil _ _, HBK.out, hvl, fun _ _ => rfl, HKB.out, Nat.le_refl _⟩
  case round =>
    obtain ⟨k, r, hk, rfl, hown, hblk, hrl, hcf, hkr, hsB⟩ := hrel
    by_cases hlt : k < 64
    · obtain ⟨q, hq⟩ : ∃ q : Nat, (f + (k : Nat)) % 255 = (q : Int) := ⟨((f + (k : Nat)) % 255).toNat, by omega⟩
      have hq0 : q < 255 := by omega
      have HQ := Lib.hid hq
      have HCF := Lib.hid hcf
      have hll : (ring f k).length ≤ 1000000000 := by rw [ring_length]; omega
      have HRS := Lib.hid (ring_succ f k)
      rw [hq] at HRS
      obtain ⟨RK, hRK⟩ : ∃ RK, ring f k = RK := ⟨_, rfl⟩
      rw [hRK] at hown hll HRS HCF
      have HOWN := Lib.hid hown
      have HBL := Lib.hid hblk
      have HKR := Lib.hid hkr
      have HRK := Lib.hid hRK
      clear hown hblk hcf hkr hRK
      have HBW := Lib.hid (fun (w2 : World) (hg : (wr.alloc (.cells #[.int .i64 (q : Int)] 3)).grownBy w2 u10.ownBlock) => (HBL.out.below ((Below.refl _ wr).alloc (Nat.le_refl _) _)).grown hg (fun e => by have := HOWN.out.block b e; omega))
      have HKW := Lib.hid (fun (w2 : World) (hg : (wr.alloc (.cells #[.int .i64 (q : Int)] 3)).grownBy w2 u10.ownBlock) => (HKR.out.alloc _).grown hg (fun g e => by have := HOWN.out.block g e; omega))
      have HSW := Lib.hid (fun (w2 : World) (hg : (wr.alloc (.cells #[.int .i64 (q : Int)] 3)).grownBy w2 u10.ownBlock) => (show wB.heap.size ≤ w2.heap.size by have := hg.size; rw [World.size_alloc] at this; omega))
      have hkq : (q : Int) < 255 := by omega
      by_cases huk : k < u.size
      · have hgu := ls_get u k huk
        obtain ⟨y, hy⟩ : ∃ y, cf (ls u) k = y := ⟨_, rfl⟩
        rw [hy] at hgu
        have hku : (k : Int) < (u.size : Int) := by omega
        clear hy
        go_wp2_with (at_builtin; refine wp_pushIg rfl _ _ rfl (q : Int) HOWN.out rfl rfl hll hsB ?_; intro v2 w2 hown2 hgr2; have hbk2 := HBW.out w2 hgr2; have hc2 := hbk2.cell q (by rw [hrl]; exact hq0); have hz2 := hbk2.free q (by rw [hrl]; exact hq0))
        have HC1 := Lib.hid (er_next y hrl (by rw [HRK.out]; exact HCF.out) HQ.out)
        have HB1 : Blk b (r.set q y) ((w2.setCell ⟨b, q, none⟩ (.int .u8 0)).setCell ⟨b, q, none⟩ (.int .u8 (y.toNat : Int))) := by
          have h := (hbk2.set (k := q) (by rw [hrl]; exact hq0) 0).set (k := q) (by rw [List.length_set, hrl]; exact hq0) y
          rw [List.set_set] at h; exact h
        have hO := (Only.setCell w2 ⟨b, q, none⟩ (.int .u8 0)).trans (Only.setCell _ ⟨b, q, none⟩ (.int .u8 (y.toNat : Int)))
        go_roundw
        case rel => exact ⟨k + 1, r.set q y, by omega, by go_num, by rw [HRS.out]; exact hown2.only hO hbB, HB1, by rw [List.length_set]; exact hrl, HC1.out, hO.keeps (HKW.out w2 hgr2) hsz0, Nat.le_trans (HSW.out w2 hgr2) hO.size⟩
        case measure => simp [intOf]; omega
      · have hku : (u.size : Int) ≤ (k : Int) := by omega
        go_wp2_with (at_builtin; refine wp_pushIg rfl _ _ rfl (q : Int) HOWN.out rfl rfl hll hsB ?_; intro v2 w2 hown2 hgr2; have hbk2 := HBW.out w2 hgr2; have hc2 := hbk2.cell q (by rw [hrl]; exact hq0); have hz2 := hbk2.free q (by rw [hrl]; exact hq0))
        have HC1 := Lib.hid (er_next 0 hrl (by rw [HRK.out]; exact HCF.out) HQ.out)
        have HB1 : Blk b (r.set q 0) (w2.setCell ⟨b, q, none⟩ (.int .u8 0)) := hbk2.set (k := q) (by rw [hrl]; exact hq0) 0
        have hO := Only.setCell w2 ⟨b, q, none⟩ (.int .u8 0)
        go_roundw
        case rel => exact ⟨k + 1, r.set q 0, by omega, by go_num, by rw [HRS.out]; exact hown2.only hO hbB, HB1, by rw [List.length_set]; exact hrl, HC1.out, hO.keeps (HKW.out w2 hgr2) hsz0, Nat.le_trans (HSW.out w2 hgr2) hO.size⟩
        case measure => simp [intOf]; omega
    · have HE := Lib.hid (show k = 64 by omega)
      have hge : 64 ≤ (k : Int) := by omega
      rw [HE.out] at hown hcf
      obtain ⟨av, cap, rfl, hii⟩ := hown.isI
      rw [ring_length] at hii
      rw [ring_length]
      have hcv := hblk.whole cb (n := 255) hrl.symm
      have HN := Lib.hid (show Near r (ring f 64) v from ⟨HW.out, by rw [dif_zero hcf, ring_length]; decide⟩)
      have HOK := Lib.hid (ring_ok f (k := 64) (by omega))
      have HII := Lib.hid hii
      have HKR := Lib.hid hkr
      have hrs : (st r).size ≤ 1000 := by rw [st_size, hrl]; omega
      clear hown hcf hii hkr
      go_wp2_with fail
      refine (mword_any (st r) av 64 cap (ring f 64) wr HII.out hrs (by omega)).mono ?_
      rintro e w1 ⟨r1, ps1, er1, a1, n1, c1, rfl, hm1, hi1, hk1⟩
      rw [ls_st] at hm1
      obtain ⟨x1, x2, x3⟩ := hm1.found hrl HOK.out HN.out
      subst x3
      rw [x1]
      have hblk1 := hblk.below hk1
      have hcv1 := hblk1.whole cb (n := 255) hrl.symm
      have HI1 := Lib.hid (HII.out.kept hk1)
      have HK1 := Lib.hid (HKR.out.over hk1)
      clear hm1 hi1 x2 hblk hcv
      obtain ⟨z, hz⟩ : ∃ z : Nat, (f + 100) % 255 = (z : Int) := ⟨((f + 100) % 255).toNat, by omega⟩
      have hz0 : z < 255 := by omega
      have HZ := Lib.hid (show (z : Int) ∉ ring f 64 by rw [← hz]; exact ring_not (f := f) (k := 64) (j := 100) (by omega) (by omega))
      have er : (st r).size = 255 := by rw [st_size, hrl]
      have hcb3 := Lib.run_convert_string_bytes (P := Try.prog) w1 9 34 5 (st r) Try.underlying9 Try.underlying34 Try.underlying5
      rw [er] at hcb3
      obtain ⟨cc, hcc⟩ : ∃ cc, grownCap w1 255 0 5 = cc := ⟨_, rfl⟩
      rw [hcc] at hcb3
      have hcc2 : 255 ≤ cc := by rw [← hcc]; exact grownCap_ge _ _ _ _
      obtain ⟨wC, hwC⟩ : ∃ wC, Lib.bytesWorld w1 5 (st r) = wC := ⟨_, rfl⟩
      have hkC : Keeps w1 wC := by rw [← hwC]; exact Lib.bytesWorld_below w1 5 (st r)
      have hbC : Blk w1.heap.size r wC := by have := Blk.bytes w1 (st r); rw [ls_st, hwC] at this; exact this
      rw [hwC] at hcb3
      have hcz := hbC.cell z (by rw [hrl]; exact hz0)
      have hfz := hbC.free z (by rw [hrl]; exact hz0)
      obtain ⟨y, hy⟩ : ∃ y, cf r z = y := ⟨_, rfl⟩
      rw [hy] at hcz
      have hzl : (z : Int) < 255 := by omega
      have hzz : (0 : Int) ≤ (z : Int) := by omega
      obtain ⟨y1, hy1⟩ : ∃ y1, y ^^^ 1 = y1 := ⟨_, rfl⟩
      have hbx : bits BinOp.xor IntKind.u8 (y.toNat : Int) 1 = (y1.toNat : Int) := by
        rw [← hy1, ← xr8]
        exact xr_bits (byte8 y) (byte8 1)
      have hbD := hbC.set (k := z) (by rw [hrl]; exact hz0) y1
      have hcv2 := hbD.whole cc (n := 255) (by rw [List.length_set]; exact hrl.symm)
      have HKD := Lib.hid ((Only.setCell wC ⟨w1.heap.size, z, none⟩ (.int .u8 (y1.toNat : Int))).keeps (w0 := w1) hkC (Nat.le_refl _))
      have hr2 : (r.set z y1).length = 255 := by rw [List.length_set]; exact hrl
      obtain ⟨x, hx⟩ := erased_near hr2 HOK.out (ring_length f 64)
      have HX := Lib.hid hx
      have HXV := Lib.hid (show (x == v) = false by
        rw [beq_eq_false_iff_ne]
        intro e
        have h1 := near_at hx (.inl (ring_length f 64)) hz0 HZ.out
        have h2 := near_at HN.out (.inl (ring_length f 64)) hz0 HZ.out
        rw [cf_set _ _ _ (by rw [hrl]; exact hz0), if_pos rfl, e, ← h2, hy, ← hy1] at h1
        have h3 : y ^^^ (y ^^^ 1) = 0 := by rw [h1, xor_s]
        rw [← xor_a, xor_s, z_xor] at h3
        exact absurd h3 (by decide))
      have HXI := Lib.hid ((isB_iff x).2 hx.1)
      have hzs : (st (r.set z y1)).size ≤ 1000 := by rw [st_size, hr2]; omega
      obtain ⟨r2, hr2e⟩ : ∃ r2, r.set z y1 = r2 := ⟨_, rfl⟩
      rw [hr2e] at hcv2 hr2 hzs HX
      clear hwC hcc hx hy hy1 hbD hr2e hbC
      go_wp2_with fail
      refine (mword_any (st r2) av 64 cap (ring f 64) _ (HI1.out.kept HKD.out) hzs (by omega)).mono ?_
      rintro e w3 ⟨r3, ps3, er3, a3, n3, c3, rfl, hm3, hi3, hk3⟩
      rw [ls_st] at hm3
      obtain ⟨y1', y2', y3'⟩ := hm3.found hr2 HOK.out HX.out
      subst y3'
      rw [y1']
      have hxv := HXV.out
      have HK3 := Lib.hid ((HK1.out.over HKD.out).over hk3)
      clear hm3 hi3 y2'
      go_wp2_with fail
      refine (ris_any w (st x) w3 HK3.out).mono ?_
      rintro e w4 ⟨rfl, hk4⟩
      rw [ls_st, HXI.out]
      go_wp2_with fail
      refine (awake4_any w w4 hk4).mono ?_
      rintro e w5 ⟨rfl, hk5⟩
      go_wp2
      go_ret
      exact ⟨rfl, hk5⟩
theorem walk (d : ByteArray) (wd : d.size ≤ maxLen) (f : Int) (wf : (Lit.int .i64 f).wf = true) (u : ByteArray) (wu : u.size ≤ maxLen) (w : World) :
    Calls Try.prog 8 #[.string d, .int .i64 f, .string u] w fun e w' => e = .returned (.bool true) ∧ Below w.heap.size w w' := by
  by_cases h : (d.size : Int) ≤ 191 ∧ (u.size : Int) ≤ 64 ∧ 0 ≤ f ∧ f ≤ 254
  · exact core d u f w h.1 h.2.1 h.2.2.1 h.2.2.2
  · exact off d u f w (by omega)

theorem own : ownKnob Try.prog.godebug = none := by kernel_rfl
theorem laidOut : laidOutB Try.prog = true := by kernel_rfl
set_option maxRecDepth 100000 in
theorem lifted (os : Os) (started : os.Started) (H : Type) (enc : TypeId × Value → H) :
    ReturnsInHanded {} Try.checked os 8 .any (Rows.mendErasedSpec.pre6 enc Try.prog Try.f8 Rows.mendErasedRow.domain false) (Rows.mendErasedSpec.post enc Try.prog Try.f8 false true false false) := by
  refine returnsInHanded_of_change (C := Try.checked) own started (by kernel_rfl) Try.func8
    (ChangeSpec.witness6 (enc := enc) (C := Try.checked) false ⟨#[], #[.string ByteArray.empty, .int .i64 0, .string ByteArray.empty], []⟩ 8 (by kernel_rfl) (by kernel_rfl) (by kernel_rfl) (by kernel_rfl)) ?_
  intro W base args ds gs before hval0 hW hcnd _
  have hval : ∀ (j : Nat) t v, Try.f8.params[j]? = some t → args[j]? = some v → Value.okWide Try.prog W .any base t v := hval0
  have hW' := hW
  obtain ⟨p, q, hA0, hV, rfl, hfz, hnd⟩ := hW
  have hA : DataW.TrodAll enc Try.prog W 0 (fun _ => true) true Try.f8.params.toList args.toList ds p := hA0
  rw [Try.params8] at hA hval
  obtain ⟨v0, vs0, d0, ds0, p0, q0, hargs, rfl, rfl, h0, r0⟩ := trodAll_cons hA
  obtain ⟨v1, vs1, d1, ds1, p1, q1, rfl, rfl, rfl, h1, r1⟩ := trodAll_cons r0
  obtain ⟨v2, vs2, d2, ds2, p2, q2, rfl, rfl, rfl, h2, r2⟩ := trodAll_cons r1
  obtain ⟨rfl, rfl, rfl⟩ := trodAll_nil r2
  obtain rfl : args = #[v0, v1, v2] := by cases args; simp_all
  obtain ⟨rfl, rfl⟩ := trodVars_none hV
  obtain ⟨a0, rfl, rfl, rfl, w0⟩ := open_string Try.underlying9 (hval 0 9 v0 rfl rfl) h0
  obtain ⟨a1, rfl, rfl, rfl, w1⟩ := open_int Try.underlying3 (hval 1 3 v1 rfl rfl) h1
  obtain ⟨a2, rfl, rfl, rfl, w2⟩ := open_string Try.underlying9 (hval 2 9 v2 rfl rfl) h2
  clear hA0 hval0
  refine (walk a0 w0 a1 w1 a2 w2 W).mono fun e W' ⟨he, bel⟩ => ?_
  subst he
  exact ⟨_, rfl, _, _, _, [], _, [], hW', trodAll_mk1 (shut_bool Try.underlying4 _), (trodAll_cons_mk (shut_string Try.underlying9 w0) (trodAll_cons_mk (shut_int Try.underlying3 w1) (trodAll_cons_mk (shut_string Try.underlying9 w2) trodAll_mk0))), rfl, bel.frame _, fun h => by cases h⟩

theorem over : Rows.mendErasedRow.holds Try.pinned (OpenSpec.ofChange Rows.mendErasedSpec) :=
  OpenClaim.holds_of_wide 8 Try.f8 rfl rfl rfl rfl rfl rfl rfl ⟨rfl, rfl, rfl, rfl, rfl⟩ rfl rfl rfl rfl rfl (by kernel_rfl) Try.func8 (by kernel_rfl)
    (of_decide_eq_true (by kernel_rfl)) (by unfold Func.isWrapper; first | (rw [if_pos (by decide +kernel)]; kernel_rfl) | (rw [if_neg (by decide +kernel)]; exact ⟨rfl, rfl⟩))
    (fun os started H enc _ => lifted os started H enc)

theorem proved : Rows.MendErasedSaid := over
#print axioms proved
end Go.Proofs.Ytdlcloenihkkgaa.mendErased
