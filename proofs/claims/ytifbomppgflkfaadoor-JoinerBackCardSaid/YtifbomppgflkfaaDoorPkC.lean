/-
  What Decode of package packet answers, for texts of up to a million bytes. The memory that was there stays.
-/
import Derived.Test.YtifbomppgflkfaaDoorPkA
import Derived.Test.YtifbomppgflkfaaDoorBitsIn
import Derived.Test.YtifbomppgflkfaaDoorPkBits
namespace Go.Proofs.YtifbomppgflkfaaDoor.Pk
open Gf
set_option maxRecDepth 100000
/-- What is told of the adaptation of bytes. -/
def adq (l : List UInt8) : Int × Int := if hw l = 1 then ((0 : Int), (0 : Int)) else if (hw l = 2 ∧ (cf l 4).toNat = 183) ∨ (hw l = 3 ∧ (cf l 4).toNat < 183) then (1 + ((cf l 4).toNat : Int), 0) else (0, 12)
theorem adq_of {l : List UInt8} (h : l.length = 188) (k : cf l 0 = 71) : (dcE l = 0 ∧ adq l = ((frm l : Int) - 4, 0) ∧ 4 ≤ frm l ∧ frm l ≤ 188) ∨ (dcE l = 12 ∧ adq l = (0, 12)) := by
  have hl := hw_lt l
  by_cases g1 : hw l = 1
  · refine .inl ⟨dcE_1 h k g1, ?_, ?_, ?_⟩
    · unfold adq frm; rw [if_pos g1, if_pos g1]; rfl
    · unfold frm; rw [if_pos g1]; decide
    · unfold frm; rw [if_pos g1]; decide
  by_cases g2 : hw l = 2
  · by_cases n : (cf l 4).toNat = 183
    · refine .inl ⟨dcE_2 h k g2 n, ?_, ?_, ?_⟩
      · unfold adq frm; rw [if_neg g1, if_pos (.inl ⟨g2, n⟩), if_neg g1, if_pos g2, n]; rfl
      · unfold frm; rw [if_neg g1, if_pos g2]; decide
      · unfold frm; rw [if_neg g1, if_pos g2]; decide
    · refine .inr ⟨dcE_2no h k g2 n, ?_⟩
      unfold adq; rw [if_neg g1, if_neg (by omega)]
  by_cases g3 : hw l = 3
  · by_cases n : (cf l 4).toNat ≤ 182
    · refine .inl ⟨dcE_3 h k g3 n, ?_, ?_, ?_⟩
      · unfold adq frm; rw [if_neg g1, if_pos (.inr ⟨g3, by omega⟩), if_neg g1, if_neg g2]; congr 1; omega
      · unfold frm; rw [if_neg g1, if_neg g2]; omega
      · unfold frm; rw [if_neg g1, if_neg g2]; omega
    · refine .inr ⟨dcE_3no h k g3 (by omega), ?_⟩
      unfold adq; rw [if_neg g1, if_neg (by omega)]
  · have g0 : hw l = 0 := by omega
    refine .inr ⟨dcE_0 h k g0, ?_⟩
    unfold adq; rw [if_neg g1, if_neg (by omega)]
theorem one_ne {n : Nat} (h : n ≤ 1) : decide (n = 1) = ((n : Int) != 0) := by
  have : n = 0 ∨ n = 1 := by omega
  rcases this with rfl | rfl <;> decide
end Go.Proofs.YtifbomppgflkfaaDoor.Pk
namespace Go.Proofs.YtifbomppgflkfaaDoor
open Go.RowKit Go.Shelf Gf Pk Bit
set_option maxRecDepth 100000
/-- The first k fields of bytes, and 0. -/
def mx (vs : List Nat) (k : Nat) : List Value := (List.range 8).map fun i => if i < k then .int .i64 (vs.getD i 0 : Int) else .int .i64 0
theorem mx_length (vs : List Nat) (k : Nat) : (mx vs k).length = 8 := by simp [mx]
theorem mx_zero (vs : List Nat) : mx vs 0 = [.int .i64 0, .int .i64 0, .int .i64 0, .int .i64 0, .int .i64 0, .int .i64 0, .int .i64 0, .int .i64 0] := rfl
theorem mx_get (vs : List Nat) (k : Nat) {i : Nat} (h : i < 8) : (mx vs k)[i]? = some (if i < k then .int .i64 (vs.getD i 0 : Int) else .int .i64 0) := by
  unfold mx
  rw [List.getElem?_map, List.getElem?_range h]; rfl
theorem mx_set {vs : List Nat} {k x : Nat} (hk : k < 8) (hx : vs[k]? = some x) : (mx vs k).set k (.int .i64 (x : Int)) = mx vs (k + 1) := by
  apply List.ext_getElem?
  intro i
  by_cases h : i < 8
  · by_cases e : k = i
    · subst e
      rw [List.getElem?_set_self (by rw [mx_length]; exact hk), mx_get _ _ h, if_pos (by omega), List.getD_eq_getElem?_getD, hx]; rfl
    · rw [List.getElem?_set_ne e, mx_get _ _ h, mx_get _ _ h]
      by_cases g : i < k
      · rw [if_pos g, if_pos (by omega)]
      · rw [if_neg g, if_neg (by omega)]
  · rw [List.getElem?_eq_none (by rw [List.length_set, mx_length]; omega), List.getElem?_eq_none (by rw [mx_length]; omega)]
theorem pkindex8 {k : Nat} (hk : k < 8) {v : Value} (h : wdC[k]? = some v) (w : World) :
    (Instr.index 73 (.agg wdC.toArray) (.int .i64 (k : Int))).run Tryd.prog w = .ok v w := by
  have hk' : k = 0 ∨ k = 1 ∨ k = 2 ∨ k = 3 ∨ k = 4 ∨ k = 5 ∨ k = 6 ∨ k = 7 := by omega
  rcases hk' with rfl | rfl | rfl | rfl | rfl | rfl | rfl | rfl
  all_goals
    simp [wdC] at h
    subst h
    simp [wdC, Instr.index, run_underlying Tryd.underlying73, asIntOf, Tryd.sizeOf3, part, Tryd.isAgg3]
theorem pksz8 : (Tryd.prog.info? 73).map (·.size) = some 8 := by kernel_rfl
theorem pkget_at {b : Nat} {s : ByteArray} {p : Nat} {w : World} (h : InAt b 0 s p w) (N : Nat) {q x : Nat} (hv : num (((ob (ls s)).drop p).take N) = x) (hq : p + N = q) (hN : N ≤ 64) (hs : s.size ≤ 1000000) (hp : p + N ≤ 8 * s.size) :
    Calls Tryd.prog 37 #[.pointer (some ⟨b, 0, none⟩), .int .i64 (N : Int)] w fun e w' => e = .returned (.int .u64 (x : Int)) ∧ InAt b 0 s q w' ∧ Only b w w' := by
  have := get_ok h N hN hs hp
  rw [hv, hq] at this
  exact this
/-- While a packet is read: the reader, the fields, what is answered. -/
structure PkR (w0 : World) (rb b2 b4 : Nat) (s : ByteArray) (p : Nat) (vs : List Value) (W : World) : Prop where
  i : InAt rb 0 s p W
  a : CsAt b4 vs W
  z : CsAns w0 b2 (pkC pk0) W
  n1 : b4 ≠ rb
  n2 : b2 ≠ rb
  n3 : b2 ≠ b4
  m1 : w0.heap.size ≤ rb
  m4 : w0.heap.size ≤ b4
section
variable {w0 W W' : World} {rb b2 b4 p q : Nat} {s : ByteArray} {vs : List Value}
theorem CsAns.far {b c : Nat} {cs : List Value} (h : CsAns w0 b cs W) (hn : b ≠ c) (hc : w0.heap.size ≤ c) (k : Only c W W') : CsAns w0 b cs W' := ⟨h.z.only hn k, k.keeps h.k hc, h.m⟩
theorem PkR.got (h : PkR w0 rb b2 b4 s p vs W) (i : InAt rb 0 s q W') (o : Only rb W W') : PkR w0 rb b2 b4 s q vs W' :=
  ⟨i, h.a.only h.n1 o, h.z.far h.n2 h.m1 o, h.n1, h.n2, h.n3, h.m1, h.m4⟩
theorem PkR.set (h : PkR w0 rb b2 b4 s p vs W) (i : Nat) (hi : i < vs.length) (v : Value) : PkR w0 rb b2 b4 s p (vs.set i v) (W.setCell ⟨b4, i, none⟩ v) :=
  ⟨h.i.only (Ne.symm h.n1) (Only.setCell W ⟨b4, i, none⟩ v), h.a.set i hi v, h.z.far h.n3 h.m4 (Only.setCell W ⟨b4, i, none⟩ v), h.n1, h.n2, h.n3, h.m1, h.m4⟩
theorem PkR.eqv (h : PkR w0 rb b2 b4 s p vs W) (e : Eqv W W') : PkR w0 rb b2 b4 s p vs W' := h.got (h.i.eqv e) (Only.eqv e)
end
theorem wd_of {k n : Nat} (h : wds[k]? = some n) : wdC[k]? = some (.int .i64 (n : Int)) := by
  rw [show wdC = wds.map fun x : Nat => (.int .i64 (x : Int) : Value) from rfl, List.getElem?_map, h]; rfl
theorem pkdrop (s : ByteArray) (i : Nat) : s.extract i s.size = st ((ls s).drop i) := by
  rw [← st_ls (s.extract i s.size), ls_part]; congr 1; exact List.take_of_length_le (by rw [List.length_drop, ls_size]; omega)
def pkdRel (w0 : World) (rb b2 b4 : Nat) (s : ByteArray) (rs : List Nat) (x : Value) (wr : World) : Prop := ∃ k p : Nat, k ≤ 8 ∧ x = .int .i64 (k : Int) ∧ offs[k]? = some p ∧ PkR w0 rb b2 b4 s p (mx rs k) wr
def PkdPost' (w0 : World) (r : Pkt × Int) (e : Ending) (w' : World) : Prop := e = .returned (.tuple #[pkV r.1, .int .i64 r.2]) ∧ Keeps w0 w'
set_option maxHeartbeats 12800000 in
theorem pkdecode_any (s : ByteArray) (w : World) (hW : Wd w) (hz : s.size ≤ 1000000) : Calls Tryd.prog 29 #[.string s] w fun e w' => e = .returned (.tuple #[pkV (dc (ls s)).1, .int .i64 (dc (ls s)).2]) ∧ Keeps w w' := by
  obtain ⟨b, hb⟩ : ∃ b, w.heap.size = b := ⟨_, rfl⟩
  obtain ⟨wA, hA⟩ : ∃ wX, w.alloc (.cells #[.int .i64 0, .bool false, .int .i64 0, .bool false, .string ⟨#[]⟩] 32) = wX := ⟨_, rfl⟩
  have A0 := Lib.hid (CsAns.start (Keeps.refl w) (a := #[.int .i64 0, .bool false, .int .i64 0, .bool false, .string ⟨#[]⟩]) (by simp) hb hA)
  have hls := ls_size s
  by_cases h1 : s.size < 188
  · rw [dc_no (l := ls s) (by rw [dcE_short (by omega)]; decide), dcE_short (by omega)]
    have hi : (s.size : Int) < 188 := by omega
    clear h1 hls hW
    go_enter Tryd.func29, Tryd.ntmps29
    go_wp2_with (first | (refine wp_stP (b := b) (off := 0) pk0 (A0.out.z.there (by decide)) rfl _ _ rfl rfl rfl ?_))
    have E := A0.out.ends (pkC pk0) rfl
    exact cs_ret2 Tryd.results29 (lvP E.z.r) rfl rfl rfl ⟨rfl, E.k⟩
  by_cases h2 : 188 < s.size
  · rw [dc_no (l := ls s) (by rw [dcE_long (by omega)]; decide), dcE_long (by omega)]
    have hi : ¬ (s.size : Int) < 188 := by omega
    have hj : (188 : Int) < (s.size : Int) := by omega
    clear h1 h2 hls hW
    go_enter Tryd.func29, Tryd.ntmps29
    go_wp2_with (first | (refine wp_stP (b := b) (off := 0) pk0 (A0.out.z.there (by decide)) rfl _ _ rfl rfl rfl ?_))
    have E := A0.out.ends (pkC pk0) rfl
    exact cs_ret2 Tryd.results29 (lvP E.z.r) rfl rfl rfl ⟨rfl, E.k⟩
  have h3 : s.size = 188 := by omega
  have hi : ¬ (s.size : Int) < 188 := by omega
  have hj : ¬ (188 : Int) < (s.size : Int) := by omega
  have i0 : (0 : Int) < (s.size : Int) := by omega
  have z0 : 0 < s.size := by omega
  have g0 := ls_get s 0 z0
  by_cases h4 : cf (ls s) 0 = 71
  · obtain ⟨l, hl⟩ : ∃ l, ls s = l := ⟨_, rfl⟩
    rw [hl] at h4 g0 hls ⊢
    rw [h4] at g0
    have hl8 : l.length = 188 := by omega
    have i4 : (4 : Int) < (s.size : Int) := by omega
    have z4 : 4 < s.size := by omega
    have g4 := ls_get s 4 z4
    rw [hl] at g4
    have h40 := (cf l 4).toNat_lt
    have hq := adq_of hl8 h4
    have HAD := Lib.hid (fun W => pkadapted_any (hw l) (cf l 4).toNat W (adq l) rfl (by omega))
    obtain ⟨rs, hrs⟩ : ∃ rs, rvs l = rs := ⟨_, rfl⟩
    have HG := Lib.hid (fun k (hk : k < 8) => rvs_get hl8 hk)
    have c1 := (cf l 1).toNat_lt
    obtain ⟨n1, hn1⟩ : ∃ n, (cf l 1).toNat / 128 = n := ⟨_, rfl⟩
    obtain ⟨n2, hn2⟩ : ∃ n, (cf l 1).toNat / 64 % 2 = n := ⟨_, rfl⟩
    have d1 := one_ne (show n1 ≤ 1 by omega)
    have d2 := one_ne (show n2 ≤ 1 by omega)
    obtain ⟨v0, hv0⟩ : ∃ v, (((cf l 0).toNat : Nat) : Int) = v := ⟨_, rfl⟩
    obtain ⟨v1, hv1⟩ : ∃ v, ((n1 : Nat) : Int) = v := ⟨_, rfl⟩
    obtain ⟨v2, hv2⟩ : ∃ v, ((n2 : Nat) : Int) = v := ⟨_, rfl⟩
    obtain ⟨v3, hv3⟩ : ∃ v, (((cf l 1).toNat / 32 % 2 : Nat) : Int) = v := ⟨_, rfl⟩
    obtain ⟨v4, hv4⟩ : ∃ v, (((cf l 1).toNat % 32 * 256 + (cf l 2).toNat : Nat) : Int) = v := ⟨_, rfl⟩
    obtain ⟨v5, hv5⟩ : ∃ v, (((cf l 3).toNat / 64 : Nat) : Int) = v := ⟨_, rfl⟩
    obtain ⟨v6, hv6⟩ : ∃ v, ((hw l : Nat) : Int) = v := ⟨_, rfl⟩
    obtain ⟨v7, hv7⟩ : ∃ v, (((cf l 3).toNat % 16 : Nat) : Int) = v := ⟨_, rfl⟩
    have HDP := Lib.hid (show dcP l = ⟨v4, v2 != 0, v7, v1 != 0, st (l.drop (frm l))⟩ by
      unfold dcP; rw [hn1, hn2, d1, d2, hv1, hv2, hv4, hv7])
    have HMX := Lib.hid (show mx rs 8 = [.int .i64 v0, .int .i64 v1, .int .i64 v2, .int .i64 v3, .int .i64 v4, .int .i64 v5, .int .i64 v6, .int .i64 v7] by
      rw [← hrs, ← hv0, ← hv1, ← hv2, ← hv3, ← hv4, ← hv5, ← hv6, ← hv7, ← hn1, ← hn2]; rfl)
    simp only [hv6] at HAD
    simp only [hrs] at HG
    have HB := Lib.hid (pkdrop s (frm l))
    rw [hl] at HB
    have HL := Lib.hid hl
    obtain ⟨c4, hc4⟩ : ∃ c, cf l 4 = c := ⟨_, rfl⟩
    rw [hc4] at g4 HAD h40
    clear hc4 hn1 hn2 d1 d2 hv0 hv1 hv2 hv3 hv4 hv5 hv6 hv7 hrs c1 h4 hls hl hl8
    have wr0 := wrapI (a := (c4.toNat : Int)) (by omega) (by omega)
    obtain ⟨wB, hB⟩ : ∃ wX, wA.alloc (.cells #[.int .i64 0, .int .i64 0, .int .i64 0, .int .i64 0, .int .i64 0, .int .i64 0, .int .i64 0, .int .i64 0] 73) = wX := ⟨_, rfl⟩
    have hzA : wA.heap.size = b + 1 := by rw [← hA, World.size_alloc, hb]
    have hzB : wB.heap.size = b + 2 := by rw [← hB, World.size_alloc, hzA]
    have HAB := Lib.hid (show Keeps wA wB by rw [← hB]; exact (Keeps.refl wA).alloc _)
    have HV := Lib.hid (show CsAt (b + 1) (mx rs 0) wB by rw [mx_zero, ← hB, ← hzA]; exact CsAt.made wA #[.int .i64 0, .int .i64 0, .int .i64 0, .int .i64 0, .int .i64 0, .int .i64 0, .int .i64 0, .int .i64 0] _ (by simp))
    have RD := Lib.hid (read_any s wB)
    rw [hzB] at RD
    have HMB := Lib.hid (show w.heap.size ≤ b by omega)
    have ST := Lib.hid (fun w1 (i : InAt (b + 2) 0 s 0 w1) (k : Keeps wB w1) => show PkR w (b + 2) b (b + 1) s 0 (mx rs 0) w1 from
      ⟨i, HV.out.keeps k, (A0.out.keeps HAB.out).keeps k, by omega, by omega, by omega, by have := HMB.out; omega, by have := HMB.out; omega⟩)
    have HWB := Lib.hid ((hW.keeps A0.out.k).keeps HAB.out)
    clear hW h1 h2 h3
    rcases hq with ⟨q1, q2, q3, q4⟩ | ⟨q1, q2⟩
    · have HE := Lib.hid (show dc l = (⟨v4, v2 != 0, v7, v1 != 0, st (l.drop (frm l))⟩, 0) by rw [dc_ok q1, HDP.out])
      obtain ⟨F, hF⟩ : ∃ F, frm l = F := ⟨_, rfl⟩
      rw [hF] at HE HB q2 q3 q4
      obtain ⟨N, hN⟩ : ∃ N : Int, (F : Int) - 4 = N := ⟨_, rfl⟩
      obtain ⟨e, he⟩ : ∃ e : Int, e = 0 := ⟨_, rfl⟩
      rw [hN, ← he] at q2
      simp only [q2] at HAD
      obtain ⟨B, hBB⟩ : ∃ B, st (l.drop F) = B := ⟨_, rfl⟩
      rw [hBB] at HE HB
      have hN4 : 4 + N = (F : Int) := by omega
      have f1 : ¬ (F : Int) < 0 := by omega
      have f2 : (F : Int) ≤ (s.size : Int) := by omega
      have wr2 := wrapI (a := (F : Int)) (by omega) (by omega)
      have hex : s.extract F s.size = B := HB.out
      have hBz : B.size ≤ 1000000000 := by rw [← hex, ByteArray.size_extract]; omega
      have HCL := Lib.hid (fun W => clone_any B W hBz)
      rw [HE.out]
      have HE0 := Lib.hid he
      clear q1 q2 q3 q4 hF hN hBB hBz HE HB HDP he
      go_enter Tryd.func29, Tryd.ntmps29
      go_wp2_with (first | (go_at_call 36; refine RD.out.mono ?_; rintro _ w1 ⟨rfl, i1, k1⟩; have R0 := Lib.hid (ST.out _ i1 k1); have HW1 := Lib.hid (HWB.out.keeps k1); clear i1 k1) | (refine wpList_load_mid rfl 73 _ rfl 0 0 rfl wdC _ HW1.out Tryd.underlying73 rfl pksz8 ?_))
      go_loopw [28] (fun x wr => pkdRel w (b + 2) b (b + 1) s rs x wr) (fun x _ => 8 - (intOf x).toNat)
      case atStart => exact ⟨0, 0, by omega, rfl, rfl, R0.out⟩
      case round =>
        obtain ⟨k, p, hk, rfl, hp, hR⟩ := hrel
        have HR := Lib.hid hR
        clear hR
        by_cases hlt : k < 8
        · obtain ⟨n, x, p', g1, g2, g3, g4', g5, g6, g7, g8⟩ := HG.out k hlt
          obtain rfl : p' = p := Option.some.inj (g3.symm.trans hp)
          have hix := fun W => pkindex8 hlt (wd_of g1) W
          have hkI : (k : Int) < 8 := by omega
          have wr1 := wrapI (a := (x : Int)) (by omega) (by omega)
          have hcell : (mx rs k)[k]? = some (.int .i64 0) := by rw [mx_get _ _ hlt, if_neg (Nat.lt_irrefl k)]
          have HC := Lib.hid hcell
          have HO := Lib.hid g4'
          have HS := Lib.hid (mx_set hlt g2)
          have HN := Lib.hid (show num (((ob (ls s)).drop p').take n) = x by rw [HL.out]; exact g5)
          clear g1 g2 g3 g4' g5 hp hcell
          go_wp2_with (first | (go_at_call 37; refine (pkget_at HR.out.i n HN.out rfl (by omega) hz (by omega)).mono ?_; rintro _ w6 ⟨rfl, i6, o6⟩; have r := HR.out.got i6 o6; have qk := r.a.cell k HC.out; have fk := r.a.fz k (by rw [mx_length]; exact hlt); have R6 := Lib.hid (r.set k (by rw [mx_length]; exact hlt) (.int .i64 (x : Int))); rw [HS.out] at R6; clear r i6 o6))
          go_roundw
          case rel => exact ⟨k + 1, p' + n, by omega, by go_num, HO.out, R6.out⟩
          case measure => simp [intOf]; omega
        · obtain rfl : k = 8 := by omega
          have hkI : ¬ ((8 : Nat) : Int) < 8 := by decide
          rw [HMX.out] at HR
          have w4 := HR.out.a.cell 6 rfl
          go_wp2
          refine wp_draw (by kernel_rfl) [.pointer (some ⟨b + 1, 6, none⟩), .int .i64 v6, .string s, .int .u8 (c4.toNat : Int), .int .i64 (c4.toNat : Int), .tuple #[.int .i64 N, .int .i64 e], .tuple #[.int .i64 N, .int .i64 e], .int .i64 N, .int .i64 e, .int .i64 N, .int .i64 e]
            (fun _ W => Eqv wr W) rfl (by kernel_rfl) (fin := ?fin1a) ?hfin1a (Eqv.drew wr) ?each1a ?hend1a
          case hfin1a => simp [seqA, dstOf, Act.put]; rfl
          case each1a =>
            refine ⟨?_, ?_, ?_, ?_, ?_, ?_, ?_, ?_, ?_, ?_, ?_, trivial⟩
            all_goals intro L w5 h0 hd hs hw
            all_goals have q6 := (HR.out.eqv hw).a.cell 6 rfl
            all_goals unfold Does
            all_goals go_simp
            all_goals first
              | exact fun L' k => hw
              | ((with_reducible refine (HAD.out _).mono ?_); rintro _ w7 ⟨rfl, rfl⟩; exact ⟨_, rfl, rfl, fun L' k => hw⟩)
          case hend1a =>
          intro L w5 hL hw
          have HR := Lib.hid (HR.out.eqv hw)
          clear hw hL w4
          obtain rfl := HE0.out
          go_wp2
          have p1 := HR.out.a.cell 1 rfl
          refine wp_draw_tail 16 (by kernel_rfl) [.pointer (some ⟨b + 1, 4, none⟩), .int .i64 v4, .pointer (some ⟨b + 1, 2, none⟩), .int .i64 v2, .bool (v2 != 0), .pointer (some ⟨b + 1, 7, none⟩), .int .i64 v7, .pointer (some ⟨b + 1, 1, none⟩), .int .i64 v1, .bool (v1 != 0), .string s, .int .i64 N, .int .i64 (F : Int), .string B, .string B, .agg #[.int .i64 v4, .bool (v2 != 0), .int .i64 v7, .bool (v1 != 0), .string B]]
            (fun _ W => Keeps w5 W) rfl (by kernel_rfl) (by kernel_rfl) (fin := ?fin2) ?hfin2 ((Keeps.refl w5).eqv (Eqv.drew w5)) ?each2 ?hend2
          case hfin2 => simp [seqA, dstOf, Act.put]; rfl
          case each2 =>
            refine ⟨?_, ?_, ?_, ?_, ?_, ?_, ?_, ?_, ?_, ?_, ?_, ?_, ?_, ?_, ?_, ?_, trivial⟩
            all_goals intro L w6 h0 hd hs hw
            all_goals have hc := HR.out.a.keeps hw
            all_goals have q1 := hc.cell 1 rfl
            all_goals have q2 := hc.cell 2 rfl
            all_goals have q4 := hc.cell 4 rfl
            all_goals have q7 := hc.cell 7 rfl
            all_goals clear hc p1
            all_goals unfold Does
            all_goals go_simp
            all_goals first
              | exact fun L' k => hw
              | ((with_reducible refine (HCL.out _).mono ?_); rintro _ w7 ⟨rfl, k7⟩; exact ⟨_, rfl, rfl, fun L' k => hw.trans k7⟩)
          case hend2 =>
          intro L w6 hL hw
          have HZ := Lib.hid (HR.out.z.keeps hw)
          clear hw hL p1
          simp only [List.drop_succ_cons, List.drop_zero]
          go_wp2_with (first | (refine wp_stP (b := b) (off := 0) ⟨v4, v2 != 0, v7, v1 != 0, B⟩ (HZ.out.z.there (by decide)) rfl _ _ rfl rfl rfl ?_))
          have E := HZ.out.ends (pkC ⟨v4, v2 != 0, v7, v1 != 0, B⟩) rfl
          exact cs_ret2 Tryd.results29 (lvP (s := ⟨v4, v2 != 0, v7, v1 != 0, B⟩) E.z.r) rfl rfl rfl ⟨rfl, E.k⟩
    · have HE := Lib.hid (show dc l = (pk0, 12) by rw [dc_no (by rw [q1]; decide), q1])
      obtain ⟨N, hN⟩ : ∃ N : Int, N = 0 := ⟨_, rfl⟩
      obtain ⟨e, he⟩ : ∃ e : Int, e = 12 := ⟨_, rfl⟩
      rw [← he, show ((0 : Int), e) = (N, e) by rw [hN]] at q2
      simp only [q2] at HAD
      rw [HE.out]
      have HE0 := Lib.hid he
      clear q1 q2 HE HB HDP hN he
      go_enter Tryd.func29, Tryd.ntmps29
      go_wp2_with (first | (go_at_call 36; refine RD.out.mono ?_; rintro _ w1 ⟨rfl, i1, k1⟩; have R0 := Lib.hid (ST.out _ i1 k1); have HW1 := Lib.hid (HWB.out.keeps k1); clear i1 k1) | (refine wpList_load_mid rfl 73 _ rfl 0 0 rfl wdC _ HW1.out Tryd.underlying73 rfl pksz8 ?_))
      go_loopw [28] (fun x wr => pkdRel w (b + 2) b (b + 1) s rs x wr) (fun x _ => 8 - (intOf x).toNat)
      case atStart => exact ⟨0, 0, by omega, rfl, rfl, R0.out⟩
      case round =>
        obtain ⟨k, p, hk, rfl, hp, hR⟩ := hrel
        have HR := Lib.hid hR
        clear hR
        by_cases hlt : k < 8
        · obtain ⟨n, x, p', g1, g2, g3, g4', g5, g6, g7, g8⟩ := HG.out k hlt
          obtain rfl : p' = p := Option.some.inj (g3.symm.trans hp)
          have hix := fun W => pkindex8 hlt (wd_of g1) W
          have hkI : (k : Int) < 8 := by omega
          have wr1 := wrapI (a := (x : Int)) (by omega) (by omega)
          have hcell : (mx rs k)[k]? = some (.int .i64 0) := by rw [mx_get _ _ hlt, if_neg (Nat.lt_irrefl k)]
          have HC := Lib.hid hcell
          have HO := Lib.hid g4'
          have HS := Lib.hid (mx_set hlt g2)
          have HN := Lib.hid (show num (((ob (ls s)).drop p').take n) = x by rw [HL.out]; exact g5)
          clear g1 g2 g3 g4' g5 hp hcell
          go_wp2_with (first | (go_at_call 37; refine (pkget_at HR.out.i n HN.out rfl (by omega) hz (by omega)).mono ?_; rintro _ w6 ⟨rfl, i6, o6⟩; have r := HR.out.got i6 o6; have qk := r.a.cell k HC.out; have fk := r.a.fz k (by rw [mx_length]; exact hlt); have R6 := Lib.hid (r.set k (by rw [mx_length]; exact hlt) (.int .i64 (x : Int))); rw [HS.out] at R6; clear r i6 o6))
          go_roundw
          case rel => exact ⟨k + 1, p' + n, by omega, by go_num, HO.out, R6.out⟩
          case measure => simp [intOf]; omega
        · obtain rfl : k = 8 := by omega
          have hkI : ¬ ((8 : Nat) : Int) < 8 := by decide
          rw [HMX.out] at HR
          have w4 := HR.out.a.cell 6 rfl
          go_wp2
          refine wp_draw (by kernel_rfl) [.pointer (some ⟨b + 1, 6, none⟩), .int .i64 v6, .string s, .int .u8 (c4.toNat : Int), .int .i64 (c4.toNat : Int), .tuple #[.int .i64 N, .int .i64 e], .tuple #[.int .i64 N, .int .i64 e], .int .i64 N, .int .i64 e, .int .i64 N, .int .i64 e]
            (fun _ W => Eqv wr W) rfl (by kernel_rfl) (fin := ?fin1b) ?hfin1b (Eqv.drew wr) ?each1b ?hend1b
          case hfin1b => simp [seqA, dstOf, Act.put]; rfl
          case each1b =>
            refine ⟨?_, ?_, ?_, ?_, ?_, ?_, ?_, ?_, ?_, ?_, ?_, trivial⟩
            all_goals intro L w5 h0 hd hs hw
            all_goals have q6 := (HR.out.eqv hw).a.cell 6 rfl
            all_goals unfold Does
            all_goals go_simp
            all_goals first
              | exact fun L' k => hw
              | ((with_reducible refine (HAD.out _).mono ?_); rintro _ w7 ⟨rfl, rfl⟩; exact ⟨_, rfl, rfl, fun L' k => hw⟩)
          case hend1b =>
          intro L w5 hL hw
          have HR := Lib.hid (HR.out.eqv hw)
          clear hw hL w4
          obtain rfl := HE0.out
          go_wp2_with (first | (refine wp_stP (b := b) (off := 0) pk0 (HR.out.z.z.there (by decide)) rfl _ _ rfl rfl rfl ?_))
          have E := HR.out.z.ends (pkC pk0) rfl
          exact cs_ret2 Tryd.results29 (lvP E.z.r) rfl rfl rfl ⟨rfl, E.k⟩
  · rw [dc_no (l := ls s) (by rw [dcE_sync (by omega) h4]; decide), dcE_sync (by omega) h4]
    have hne : (cf (ls s) 0 != 71) = true := by simpa using h4
    obtain ⟨c0, hc0⟩ : ∃ c, cf (ls s) 0 = c := ⟨_, rfl⟩
    rw [hc0] at g0 hne
    have hnn : ((c0.toNat : Int) == 71) = false := by
      rw [beq_eq_false_iff_ne]; intro e
      have : c0 = 71 := UInt8.toNat_inj.1 (by show c0.toNat = 71; omega)
      rw [this] at hne; exact absurd hne (by decide)
    clear h1 h2 hls hW hc0 h4 h3 hne
    go_enter Tryd.func29, Tryd.ntmps29
    go_wp2_with (first | (refine wp_stP (b := b) (off := 0) pk0 (A0.out.z.there (by decide)) rfl _ _ rfl rfl rfl ?_))
    have E := A0.out.ends (pkC pk0) rfl
    exact cs_ret2 Tryd.results29 (lvP E.z.r) rfl rfl rfl ⟨rfl, E.k⟩
end Go.Proofs.YtifbomppgflkfaaDoor
