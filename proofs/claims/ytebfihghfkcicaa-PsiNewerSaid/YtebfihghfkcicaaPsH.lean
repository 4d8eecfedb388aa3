/-
  How package psi takes a stream off a text, and all programs, and all streams (a goto in a generic function). The memory that was there stays.
-/
import Derived.Test.YtebfihghfkcicaaPsG
namespace Go.Proofs.Ytebfihghfkcicaa
open Go.RowKit Gf Ps Sct
set_option maxRecDepth 100000
/-- A stream off a text that has bytes. -/
def tsR (l : List UInt8) : Strm × ByteArray × Int :=
  if (tpR (l.drop 1)).2.2 ≠ 0 then (⟨0, 0, ⟨#[]⟩⟩, ⟨#[]⟩, (tpR (l.drop 1)).2.2) else (⟨((cf l 0).toNat : Int), (tpR (l.drop 1)).1.1, (tpR (l.drop 1)).1.2⟩, (tpR (l.drop 1)).2.1, 0)
def TsPost (w : World) (r : Strm × ByteArray × Int) (e : Ending) (w' : World) : Prop := e = .returned (.tuple #[.agg #[.int .i64 r.1.kind, .int .i64 r.1.pid, .string r.1.info], .string r.2.1, .int .i64 r.2.2]) ∧ Keeps w w'
theorem TsPost.of {w W : World} {r : Strm × ByteArray × Int} {k p : Int} {b c : ByteArray} {d : Int} (e : r = (⟨k, p, b⟩, c, d)) (h : Keeps w W) : TsPost w r (.returned (.tuple #[.agg #[.int .i64 k, .int .i64 p, .string b], .string c, .int .i64 d])) W := by subst e; exact ⟨rfl, h⟩
theorem lvSt {w : World} {b : Nat} {k p : Int} {q : ByteArray} (h : CsAt b [.int .i64 k, .int .i64 p, .string q] w) : (loadVar 50 ⟨b, 0, none⟩).run Try.prog w = .ok (.agg #[.int .i64 k, .int .i64 p, .string q]) w :=
  run_loadVar_mid (P := Try.prog) w b 0 _ [.int .i64 k, .int .i64 p, .string q] _ h.r Try.underlying50 rfl (by kernel_rfl)
set_option maxHeartbeats 1600000 in
theorem pstakes_any (s : ByteArray) (w : World) (hs : s.size ≤ 1000000) (h1 : 1 ≤ s.size) : Calls Try.prog 28 #[.string s] w (TsPost w (tsR (ls s))) := by
  obtain ⟨b, hb⟩ : ∃ b, w.heap.size = b := ⟨_, rfl⟩
  obtain ⟨wA, hA⟩ : ∃ wA, w.alloc (.cells #[.int .i64 0, .int .i64 0, .string ⟨#[]⟩] 50) = wA := ⟨_, rfl⟩
  have A0 := Lib.hid (CsAns.start (Keeps.refl w) (a := #[.int .i64 0, .int .i64 0, .string ⟨#[]⟩]) (by simp) hb hA)
  have HTP := Lib.hid (fun W => pstakepc_any (s.extract 1 s.size) W (by rw [ByteArray.size_extract]; omega))
  unfold TpPost at HTP
  rw [show ls (s.extract 1 s.size) = (ls s).drop 1 by rw [ps_from, ls_st]] at HTP
  have HE : tsR (ls s) = if (tpR ((ls s).drop 1)).2.2 ≠ 0 then (⟨0, 0, ⟨#[]⟩⟩, ⟨#[]⟩, (tpR ((ls s).drop 1)).2.2) else (⟨((cf (ls s) 0).toNat : Int), (tpR ((ls s).drop 1)).1.1, (tpR ((ls s).drop 1)).1.2⟩, (tpR ((ls s).drop 1)).2.1, 0) := rfl
  obtain ⟨⟨⟨p, I⟩, R, r⟩, hr⟩ : ∃ q, tpR ((ls s).drop 1) = q := ⟨_, rfl⟩
  rw [hr] at HE
  simp only [hr] at HTP
  have g0 := ls_get s 0 (by omega)
  obtain ⟨x, hx⟩ : ∃ x, cf (ls s) 0 = x := ⟨_, rfl⟩
  rw [hx] at g0 HE
  have hx0 := u8_bd x
  obtain ⟨U, hU⟩ : ∃ U, s.extract 1 s.size = U := ⟨_, rfl⟩
  rw [hU] at HTP
  have h1i : (1 : Int) ≤ (s.size : Int) := by omega
  have h0i : (0 : Int) < (s.size : Int) := by omega
  have h0n : 0 < s.size := by omega
  have wrx := wrapI (a := (x.toNat : Int)) (by omega) (by omega)
  clear hr hx
  have HE0 := Lib.hid HE
  clear HE
  by_cases h0 : r = 0
  · subst h0
    have HE2 := Lib.hid (show tsR (ls s) = (⟨(x.toNat : Int), p, I⟩, R, 0) by rw [HE0.out, if_neg (fun k => k rfl)])
    go_enter Try.func28, Try.ntmps28
    go_wp2_with (go_at_call 26; refine (HTP.out _).mono ?_; rintro _ w2 ⟨rfl, k2⟩; have A2 := Lib.hid (A0.out.keeps k2); clear k2)
    obtain ⟨bp, hbp⟩ : ∃ bp, w2.heap.size = bp := ⟨_, rfl⟩
    obtain ⟨wB, hB⟩ : ∃ wB, w2.alloc (.cells #[.int .i64 p, .string I] 73) = wB := ⟨_, rfl⟩
    have HPB := Lib.hid (show CsAt bp [.int .i64 p, .string I] wB by rw [← hB, ← hbp]; exact CsAt.made w2 #[.int .i64 p, .string I] _ (by simp))
    have AB := Lib.hid (A2.out.keeps (show Keeps w2 wB by rw [← hB]; exact (Keeps.refl w2).alloc _))
    rw [hB, hbp]
    clear hB
    refine wp_draw_tail 10 (by kernel_rfl)
      [.string s, .int .u8 (x.toNat : Int), .int .i64 (x.toNat : Int), .pointer (some ⟨bp, 0, none⟩), .int .i64 p, .pointer (some ⟨bp, 1, none⟩), .string I, .agg #[.int .i64 (x.toNat : Int), .int .i64 p, .string I], .string R]
      (Once 9 (Eqv wB) (CsAns w b [.int .i64 (x.toNat : Int), .int .i64 p, .string I])) rfl (by kernel_rfl) (by kernel_rfl) (fin := ?fin2) ?hfin2 (Once.start (Eqv.drew wB)) ?each2 ?hend2
    case hfin2 => simp [seqA, dstOf, Act.put]; rfl
    case each2 =>
      refine ⟨?_, ?_, ?_, ?_, ?_, ?_, ?_, ?_, ?_, ?_, trivial⟩
      all_goals intro L w5 h0 hd hsh hw
      all_goals unfold Does
      rotate_left 9
      · have A5 := AB.out.eqv (hw.1 h0)
        have f0 := A5.z.fz 0 (show 0 < 3 by decide)
        have f1 := A5.z.fz 1 (show 1 < 3 by decide)
        have f2 := A5.z.fz 2 (show 2 < 3 by decide)
        have e0 := A5.z.cell 0 rfl
        have e1 := A5.z.cell 1 rfl
        have e2 := A5.z.cell 2 rfl
        have E : CsAns w b [.int .i64 (x.toNat : Int), .int .i64 p, .string I] (((w5.setCell ⟨b, 0, none⟩ (.int .i64 (x.toNat : Int))).setCell ⟨b, 1, none⟩ (.int .i64 p)).setCell ⟨b, 2, none⟩ (.string I)) := ((A5.set 0 (show 0 < 3 by decide) (.int .i64 (x.toNat : Int))).set 1 (show 1 < 3 by decide) (.int .i64 p)).set 2 (show 2 < 3 by decide) (.string I)
        go_simp
        exact fun L' k => Once.done k E
      rotate_left 4
      · have h9 := hsh.no (i := 4) (j := 9) (by kernel_rfl) h0
        have hp := HPB.out.eqv (hw.1 h9)
        have e0 := hp.cell 0 rfl
        go_simp
        exact fun L' k => hw.same (by decide) k
      rotate_left 1
      · have h9 := hsh.no (i := 6) (j := 9) (by kernel_rfl) h0
        have hp := HPB.out.eqv (hw.1 h9)
        have e0 := hp.cell 1 rfl
        go_simp
        exact fun L' k => hw.same (by decide) k
      all_goals go_simp
      all_goals exact fun L' k => hw.same (by decide) k
    case hend2 =>
    intro L w9 hL hw
    have E := Lib.hid (hw.2 (hL 9 (by decide)))
    simp only [List.drop_succ_cons, List.drop_zero]
    clear hw hL
    go_wp2
    exact cs_ret3 Try.results28 (lvSt E.out.z) rfl rfl rfl rfl (TsPost.of HE2.out E.out.k)
  · have HE2 := Lib.hid (show tsR (ls s) = (⟨0, 0, ⟨#[]⟩⟩, ⟨#[]⟩, r) by rw [HE0.out, if_pos h0])
    have hrb : (r != 0) = true := by simpa using h0
    go_enter Try.func28, Try.ntmps28
    go_wp2_with (first | (go_at_call 26; refine (HTP.out _).mono ?_; rintro _ w2 ⟨rfl, k2⟩; have A2 := Lib.hid (A0.out.keeps k2); have A3 := Lib.hid (A2.out.alloc (.cells #[.int .i64 p, .string I] 73)); clear k2) | (refine wpList_store_mid rfl 50 _ _ rfl b 0 #[.int .i64 0, .int .i64 0, .string ⟨#[]⟩] rfl rfl (A3.out.z.there (o := 0) (n := 3) (show 0 + 3 ≤ 3 by decide)) (by kernel_rfl) (one_st _ _ _) ?_))
    have E := A3.out.ends [.int .i64 0, .int .i64 0, .string ⟨#[]⟩] rfl
    exact cs_ret3 Try.results28 (lvSt E.z) rfl rfl rfl rfl (TsPost.of HE2.out E.k)
/-- What is behind some programs: the programs that are known, and those that are still to be taken. -/
theorem rdPr_four {r : List UInt8} (h : 4 ≤ r.length) : rdPr r = (w2 r 0, w2 r 2 % 8192) :: rdPr (r.drop 4) := by
  match r, h with
  | a :: b :: c :: d :: t, _ =>
    show _ :: rdPr t = _ :: rdPr t
    have e1 : (((a.toNat * 256 + b.toNat : Nat) : Int)) = w2 (a :: b :: c :: d :: t) 0 := by unfold w2; show _ = ((a.toNat : Int)) * 256 + ((b.toNat : Int)); omega
    have e2 : ((((c.toNat * 256 + d.toNat) % 8192 : Nat) : Int)) = w2 (a :: b :: c :: d :: t) 2 % 8192 := by unfold w2; show _ = (((c.toNat : Int)) * 256 + ((d.toNat : Int))) % 8192; omega
    rw [← e1, ← e2]
def psLen : Value → Nat
  | .string s => s.size
  | _ => 0
structure TaK (w0 : World) (l r : List UInt8) (acc : List (Int × Int)) (v : Value) (w : World) : Prop where
  sp : rdPr l = acc ++ rdPr r
  md : r.length % 4 = l.length % 4
  len : acc.length + r.length ≤ l.length
  own : OwnE rowPr w w0.heap.size v acc
  kp : Keeps w0 w
def TaJ (w0 : World) (l : List UInt8) (f : Value) (a : Act) (w : World) : Prop :=
  ∃ (r : List UInt8) (acc : List (Int × Int)) (v : Value), TaK w0 l r acc v w ∧ a.tmps.size = 28 ∧ a.defers = [] ∧ a.tmps.toList.take 7 = [.string (st r), f, undef, undef, .slice none 0 0, .int .i64 0, v]
def TaPost (w0 : World) (l : List UInt8) (e : Ending) (w' : World) : Prop := ∃ v r, e = .returned (.tuple #[v, .int .i64 r]) ∧ (l.length % 4 = 0 → r = 0 ∧ OwnE rowPr w' w0.heap.size v (rdPr l)) ∧ (l.length % 4 ≠ 0 → v = .slice none 0 0 ∧ r = 10) ∧ Keeps w0 w'
theorem TaK.next {w0 w w' : World} {l r : List UInt8} {acc : List (Int × Int)} {v v' : Value} (h : TaK w0 l r acc v w) (hr : 4 ≤ r.length) (o : OwnE rowPr w' w0.heap.size v' (acc ++ [(w2 r 0, w2 r 2 % 8192)])) (k : Keeps w0 w') : TaK w0 l (r.drop 4) (acc ++ [(w2 r 0, w2 r 2 % 8192)]) v' w' := by
  refine ⟨by rw [h.sp, rdPr_four hr, List.append_assoc]; rfl, ?_, ?_, o, k⟩
  · rw [List.length_drop, ← h.md]; omega
  · have := h.len
    rw [List.length_drop, List.length_append, List.length_singleton]; omega
theorem TaK.few {w0 w : World} {l r : List UInt8} {acc : List (Int × Int)} {v : Value} (h : TaK w0 l r acc v w) (h0 : r ≠ []) (hr : r.length < 4) : l.length % 4 ≠ 0 := by
  rw [← h.md]
  have := List.length_pos_iff.2 h0
  omega
theorem TaK.done {w0 w : World} {l : List UInt8} {acc : List (Int × Int)} {v : Value} (h : TaK w0 l [] acc v w) : l.length % 4 = 0 ∧ rdPr l = acc := ⟨by rw [← h.md]; rfl, by rw [h.sp]; exact List.append_nil _⟩
set_option maxHeartbeats 1600000 in
theorem pstakeall_pr (s : ByteArray) (w : World) (hs : s.size ≤ 1000000) : Calls Try.prog 24 #[.string s, .func (.func 25) #[] #[]] w (TaPost w (ls s)) := by
  go_enter Try.func24, Try.ntmps24
  go_wp2
  refine scope_loop (rest := ?rest) 0 (TaJ w (ls s) (.func (.func 25) #[] #[])) (fun a _ => psLen (a.tmps.getD 0 undef)) ?hf ?pass ?first
  case hf => rfl
  case first =>
    intro hrest
    have HREST := Lib.hid hrest
    clear hrest
    go_wp2
    go_step3
    rename_i hK
    refine hK _ _ (HREST.out _ _ ⟨ls s, [], .slice none 0 0, ⟨rfl, rfl, by simp, OwnE.nil _ _, Keeps.refl w⟩, rfl, rfl, ?_⟩)
    rw [st_ls]; rfl
  case pass =>
    rintro a w' ⟨r, acc, v, hK, hfs, hfd, hft⟩
    obtain ⟨us, rfl⟩ := frameN 21 [.string (st r), .func (.func 25) #[] #[], undef, undef, .slice none 0 0, .int .i64 0, v] hfs hfd hft
    simp only [tailF, List.cons_append, List.nil_append, Nat.reduceAdd]
    have hlen := hK.len
    rw [← ls_size] at hlen
    have HKK := Lib.hid hK
    clear hfs hfd hft hK
    have hsz := st_size r
    obtain ⟨S, hS⟩ : ∃ S, st r = S := ⟨_, rfl⟩
    have HS := Lib.hid (show ls S = r by rw [← hS, ls_st])
    rw [hS] at hsz
    rw [hS]
    clear hS
    by_cases h0 : r = []
    · subst h0
      have hE2 : S.toList.isEmpty = true := by rw [ls_toList, HS.out]; rfl
      obtain ⟨hm, hd⟩ := HKK.out.done
      have HO := Lib.hid (show TaPost w (ls s) (.returned (.tuple #[v, .int .i64 0])) w' from ⟨v, 0, rfl, fun _ => ⟨rfl, by rw [hd]; exact HKK.out.own⟩, fun x => absurd hm x, HKK.out.kp⟩)
      clear hsz hm hd
      go_wp2
      show bodyPost Try.prog Try.f24 (TaPost w (ls s)) Exit.ret _ _
      go_ret2
      exact HO.out
    · have hE2 : S.toList.isEmpty = false := by
        rw [ls_toList, HS.out]
        cases r with
        | nil => exact absurd rfl h0
        | cons _ _ => rfl
      have HTK := Lib.hid (fun W => pstakep_any S W)
      unfold TkPost at HTK
      by_cases h4 : r.length < 4
      · simp only [if_pos (show S.size < 4 by omega)] at HTK
        have HNO := Lib.hid (HKK.out.few h0 h4)
        have HP := Lib.hid (show ∀ W, Keeps w' W → TaPost w (ls s) (.returned (.tuple #[.slice none 0 0, .int .i64 10])) W from fun W k => ⟨_, _, rfl, fun x => absurd x HNO.out, fun _ => ⟨rfl, rfl⟩, HKK.out.kp.trans k⟩)
        clear hsz h0 h4
        go_wp2_with (go_at_call 25; refine (HTK.out _).mono ?_; rintro _ w2 ⟨rfl, k2⟩; have HK2 := Lib.hid k2; clear k2)
        show bodyPost Try.prog Try.f24 (TaPost w (ls s)) Exit.ret _ _
        go_ret2
        exact HP.out _ (HK2.out.alloc _)
      · simp only [if_neg (show ¬ S.size < 4 by omega), HS.out] at HTK
        have HNX := Lib.hid (fun v' W => HKK.out.next (v' := v') (w' := W) (by omega))
        obtain ⟨N1, hN1⟩ : ∃ N, w2 r 0 = N := ⟨_, rfl⟩
        obtain ⟨N2, hN2⟩ : ∃ N, w2 r 2 % 8192 = N := ⟨_, rfl⟩
        obtain ⟨V, hV⟩ : ∃ V, S.extract 4 S.size = V := ⟨_, rfl⟩
        have HV := Lib.hid (show V = st (r.drop 4) by rw [← hV, ps_from, HS.out])
        have HVZ := Lib.hid (show V.size < S.size by rw [← hV, ByteArray.size_extract]; omega)
        rw [hN1, hN2] at HNX
        simp only [hN1, hN2, hV] at HTK
        have HOW := Lib.hid HKK.out.own
        have HP := Lib.hid HKK.out.kp
        have hal : acc.length ≤ 100000000 := by omega
        clear hsz h0 h4 hN1 hN2 hV
        go_wp2_with (first | (go_at_call 25; refine (HTK.out _).mono ?_; rintro _ w3 ⟨rfl, k3⟩; have HK3 := Lib.hid ((k3 : Keeps _ _).alloc (.cells #[.int .i64 N1, .int .i64 N2] 52)); clear k3) | (at_builtin; refine wp_pushE (T := rowPr) rfl _ _ rfl (N1, N2) _ rfl (w3.heap.size + 1) (by simp) (HOW.out.keeps HK3.out) rfl rfl hal (Below.size (HP.out.trans HK3.out)) _ ?_; intro v5 w5 own5 grow5 at5))
        go_step3
        have HNN := HNX.out v5 w5 own5 (((HP.out.trans HK3.out).alloc _).grown grow5 (HOW.out.keeps HK3.out).block)
        exact ⟨rfl, ⟨r.drop 4, acc ++ [(N1, N2)], v5, HNN, rfl, rfl, by rw [← HV.out]; rfl⟩, HVZ.out⟩
theorem wl_drop (l : List UInt8) (k i : Nat) : wl (l.drop k) i = wl l (k + i) := by unfold wl; rw [ps_cf, ps_cf]; rfl
theorem w2_drop (l : List UInt8) (k i : Nat) : w2 (l.drop k) i = w2 l (k + i) := by unfold w2; rw [ps_cf, ps_cf]; rfl
def stmR (r : List UInt8) : Strm := ⟨((cf r 0).toNat : Int), w2 r 1 % 8192, st ((r.drop 5).take (wl r 3))⟩
theorem tsR_no {r : List UInt8} (h0 : r ≠ []) (h : r.length < 5 ∨ r.length < 5 + wl r 3) (f : Nat) : tsR r = (⟨0, 0, ⟨#[]⟩⟩, ⟨#[]⟩, 10) ∧ rdSt (f + 1) r = none := by
  have hp := List.length_pos_iff.2 h0
  have hl : (r.drop 1).length = r.length - 1 := List.length_drop
  by_cases h5 : r.length < 5
  · refine ⟨?_, rdSt_few h0 h5⟩
    unfold tsR
    rw [tpR_few (by omega), if_pos (by decide)]
  · have h6 := h.resolve_left h5
    refine ⟨?_, rdSt_short h5 h6⟩
    unfold tsR
    rw [tpR_short (by omega) (by rw [wl_drop]; show (r.drop 1).length < 4 + wl r 3; omega), if_pos (by decide)]
theorem tsR_go {r : List UInt8} (h : ¬ r.length < 5) (k : ¬ r.length < 5 + wl r 3) (f : Nat) : tsR r = (stmR r, st (r.drop (5 + wl r 3)), 0) ∧ rdSt (f + 1) r = (rdSt f (r.drop (5 + wl r 3))).map fun l => stmR r :: l := by
  have hl : (r.drop 1).length = r.length - 1 := List.length_drop
  have hw : wl (r.drop 1) 2 = wl r 3 := wl_drop r 1 2
  constructor
  · unfold tsR
    rw [tpR_ok (by omega) (by rw [hw]; omega), if_neg (by simp), hw]
    unfold stmR
    rw [List.drop_drop, List.drop_drop, show 1 + (4 + wl r 3) = 5 + wl r 3 by omega]
    show ((⟨_, w2 (r.drop 1) 0 % 8192, _⟩ : Strm), _, _) = _
    rw [w2_drop]
  · rw [rdSt_go h k]
    unfold stmR
    rw [w2_nat]; rfl
structure TbK (w0 : World) (F : Nat) (l r : List UInt8) (acc : List Strm) (v : Value) (w : World) : Prop where
  sp : ∃ f, r.length < f ∧ rdSt F l = (rdSt f r).map fun x => acc ++ x
  len : acc.length + r.length ≤ l.length
  own : OwnE rowSt w w0.heap.size v acc
  kp : Keeps w0 w
def TbJ (w0 : World) (F : Nat) (l : List UInt8) (f : Value) (a : Act) (w : World) : Prop :=
  ∃ (r : List UInt8) (acc : List Strm) (v : Value), TbK w0 F l r acc v w ∧ a.tmps.size = 28 ∧ a.defers = [] ∧ a.tmps.toList.take 7 = [.string (st r), f, undef, undef, .slice none 0 0, .int .i64 0, v]
def TbPost (w0 : World) (F : Nat) (l : List UInt8) (e : Ending) (w' : World) : Prop := ∃ v r, e = .returned (.tuple #[v, .int .i64 r]) ∧ (∀ x, rdSt F l = some x → r = 0 ∧ OwnE rowSt w' w0.heap.size v x) ∧ (rdSt F l = none → v = .slice none 0 0 ∧ r = 10) ∧ Keeps w0 w'
theorem TbK.next {w0 w w' : World} {F : Nat} {l r : List UInt8} {acc : List Strm} {v v' : Value} (h : TbK w0 F l r acc v w) (h5 : ¬ r.length < 5) (h6 : ¬ r.length < 5 + wl r 3) (o : OwnE rowSt w' w0.heap.size v' (acc ++ [stmR r])) (k : Keeps w0 w') : TbK w0 F l (r.drop (5 + wl r 3)) (acc ++ [stmR r]) v' w' := by
  obtain ⟨f, hf, he⟩ := h.sp
  obtain ⟨f', rfl⟩ : ∃ f', f = f' + 1 := ⟨f - 1, by omega⟩
  refine ⟨⟨f', by rw [List.length_drop]; omega, ?_⟩, ?_, o, k⟩
  · rw [he, (tsR_go h5 h6 f').2, Option.map_map]
    congr 1
    funext x
    simp
  · have := h.len
    rw [List.length_drop, List.length_append, List.length_singleton]; omega
theorem TbK.no {w0 w : World} {F : Nat} {l r : List UInt8} {acc : List Strm} {v : Value} (h : TbK w0 F l r acc v w) (h0 : r ≠ []) (hr : r.length < 5 ∨ r.length < 5 + wl r 3) : rdSt F l = none := by
  obtain ⟨f, hf, he⟩ := h.sp
  obtain ⟨f', rfl⟩ : ∃ f', f = f' + 1 := ⟨f - 1, by omega⟩
  rw [he, (tsR_no h0 hr f').2]; rfl
theorem TbK.done {w0 w : World} {F : Nat} {l : List UInt8} {acc : List Strm} {v : Value} (h : TbK w0 F l [] acc v w) : rdSt F l = some acc := by
  obtain ⟨f, hf, he⟩ := h.sp
  obtain ⟨f', rfl⟩ : ∃ f', f = f' + 1 := ⟨f - 1, by omega⟩
  rw [he, rdSt_nil]
  simp
set_option maxHeartbeats 1600000 in
theorem pstakeall_st (s : ByteArray) (F : Nat) (w : World) (hs : s.size ≤ 1000000) (hF : s.size < F) : Calls Try.prog 27 #[.string s, .func (.func 28) #[] #[]] w (TbPost w F (ls s)) := by
  go_enter Try.func27, Try.ntmps27
  go_wp2
  refine scope_loop (rest := ?rest) 0 (TbJ w F (ls s) (.func (.func 28) #[] #[])) (fun a _ => psLen (a.tmps.getD 0 undef)) ?hf ?pass ?first
  case hf => rfl
  case first =>
    intro hrest
    have HREST := Lib.hid hrest
    have HF0 := Lib.hid hF
    clear hrest hF
    go_wp2
    go_step3
    rename_i hK
    refine hK _ _ (HREST.out _ _ ⟨ls s, [], .slice none 0 0, ⟨⟨F, by rw [← ls_size]; exact HF0.out, by simp⟩, by simp, OwnE.nil _ _, Keeps.refl w⟩, rfl, rfl, ?_⟩)
    rw [st_ls]; rfl
  case pass =>
    clear hF
    rintro a w' ⟨r, acc, v, hK, hfs, hfd, hft⟩
    obtain ⟨us, rfl⟩ := frameN 21 [.string (st r), .func (.func 28) #[] #[], undef, undef, .slice none 0 0, .int .i64 0, v] hfs hfd hft
    simp only [tailF, List.cons_append, List.nil_append, Nat.reduceAdd]
    have hlen := hK.len
    rw [← ls_size] at hlen
    have HKK := Lib.hid hK
    clear hfs hfd hft hK
    have hsz := st_size r
    obtain ⟨S, hS⟩ : ∃ S, st r = S := ⟨_, rfl⟩
    have HS := Lib.hid (show ls S = r by rw [← hS, ls_st])
    rw [hS] at hsz
    rw [hS]
    have HSS := Lib.hid hS
    clear hS
    by_cases h0 : r = []
    · subst h0
      have hE2 : S.toList.isEmpty = true := by rw [ls_toList, HS.out]; rfl
      have hd := HKK.out.done
      have HO := Lib.hid (show TbPost w F (ls s) (.returned (.tuple #[v, .int .i64 0])) w' from ⟨v, 0, rfl, fun x hx => ⟨rfl, by rw [hd] at hx; cases hx; exact HKK.out.own⟩, fun x => (by rw [hd] at x; cases x), HKK.out.kp⟩)
      clear hsz hd
      go_wp2
      show bodyPost Try.prog Try.f27 (TbPost w F (ls s)) Exit.ret _ _
      go_ret2
      exact HO.out
    · have hE2 : S.toList.isEmpty = false := by
        rw [ls_toList, HS.out]
        cases r with
        | nil => exact absurd rfl h0
        | cons _ _ => rfl
      have hrp := List.length_pos_iff.2 h0
      have HTK := Lib.hid (fun W => pstakes_any S W (by omega) (by omega))
      unfold TsPost at HTK
      rw [HS.out] at HTK
      by_cases h4 : r.length < 5 ∨ r.length < 5 + wl r 3
      · simp only [(tsR_no h0 h4 0).1] at HTK
        have HNO := Lib.hid (HKK.out.no h0 h4)
        have HP := Lib.hid (show ∀ W, Keeps w' W → TbPost w F (ls s) (.returned (.tuple #[.slice none 0 0, .int .i64 10])) W from fun W k => ⟨_, _, rfl, fun x hx => (by rw [HNO.out] at hx; cases hx), fun _ => ⟨rfl, rfl⟩, HKK.out.kp.trans k⟩)
        clear hsz h0 h4 hrp
        go_wp2_with (go_at_call 28; refine (HTK.out _).mono ?_; rintro _ w2 ⟨rfl, k2⟩; have HK2 := Lib.hid k2; clear k2)
        show bodyPost Try.prog Try.f27 (TbPost w F (ls s)) Exit.ret _ _
        go_ret2
        exact HP.out _ (HK2.out.alloc _)
      · have h5 : ¬ r.length < 5 := fun x => h4 (.inl x)
        have h6 : ¬ r.length < 5 + wl r 3 := fun x => h4 (.inr x)
        simp only [(tsR_go h5 h6 0).1] at HTK
        have HNX := Lib.hid (fun v' W => HKK.out.next (v' := v') (w' := W) h5 h6)
        obtain ⟨⟨N1, N2, N3⟩, hN⟩ : ∃ N, stmR r = N := ⟨_, rfl⟩
        obtain ⟨V, hV⟩ : ∃ V, st (r.drop (5 + wl r 3)) = V := ⟨_, rfl⟩
        obtain ⟨R2, hR2⟩ : ∃ R2, r.drop (5 + wl r 3) = R2 := ⟨_, rfl⟩
        have HV := Lib.hid (show V = st R2 by rw [← hV, hR2])
        have HVZ := Lib.hid (show V.size < S.size by rw [← hV, st_size, List.length_drop]; omega)
        rw [hN, hR2] at HNX
        simp only [hN, hV] at HTK
        have HOW := Lib.hid HKK.out.own
        have HP := Lib.hid HKK.out.kp
        have hal : acc.length ≤ 100000000 := by omega
        clear hsz h0 h4 h5 h6 hN hV hR2 hrp
        go_wp2_with (first | (go_at_call 28; refine (HTK.out _).mono ?_; rintro _ w3 ⟨rfl, k3⟩; have HK3 := Lib.hid ((k3 : Keeps _ _).alloc (.cells #[.int .i64 N1, .int .i64 N2, .string N3] 50)); clear k3) | (at_builtin; refine wp_pushE (T := rowSt) rfl _ _ rfl ⟨N1, N2, N3⟩ _ rfl (w3.heap.size + 1) (by simp) (HOW.out.keeps HK3.out) rfl rfl hal (Below.size (HP.out.trans HK3.out)) _ ?_; intro v5 w5 own5 grow5 at5))
        go_step3
        have HNN := HNX.out v5 w5 own5 (((HP.out.trans HK3.out).alloc _).grown grow5 (HOW.out.keeps HK3.out).block)
        exact ⟨rfl, ⟨R2, acc ++ [⟨N1, N2, N3⟩], v5, HNN, rfl, rfl, by rw [← HV.out]; rfl⟩, HVZ.out⟩
end Go.Proofs.Ytebfihghfkcicaa
