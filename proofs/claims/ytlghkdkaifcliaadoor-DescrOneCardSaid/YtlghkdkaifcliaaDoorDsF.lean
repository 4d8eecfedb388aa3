/-
  What check, takeOff, Parse, Find and Loop of package descr answer. The memory that was there stays.
-/
import Derived.Test.YtlghkdkaifcliaaDoorDsC
import Derived.Test.YtlghkdkaifcliaaDoorShelf
import Derived.Test.YtlghkdkaifcliaaDoorPrLib
import Derived.Test.YtlghkdkaifcliaaDoorDgE
namespace Go.Proofs.YtlghkdkaifcliaaDoor
open Go.RowKit Gf Ds
set_option maxRecDepth 100000
set_option linter.unusedVariables false
set_option linter.unusedSimpArgs false
theorem dcs_ret3 {W : World} {a : Act} {fn : Func} {T : TypeId} {b p q r : Nat} {v u x : Value} {Q : Ending → World → Prop} (hres : fn.results = #[.cell p T, .tmp q, .tmp r])
    (hl : (loadVar T ⟨b, 0, none⟩).run Tryd.prog W = .ok v W) (h2 : a.tmps.getD p undef = .pointer (some ⟨b, 0, none⟩)) (h3 : a.tmps.getD q undef = u) (h4 : a.tmps.getD r undef = x) (hd : a.defers = [])
    (h : Q (.returned (.tuple #[v, u, x])) W) : bodyPost Tryd.prog fn Q Exit.ret a W := by
  have h2' : a.tmps[p]?.getD undef = .pointer (some ⟨b, 0, none⟩) := by rw [← h2, Array.getD_eq_getD_getElem?]
  have h3' : a.tmps[q]?.getD undef = u := by rw [← h3, Array.getD_eq_getD_getElem?]
  have h4' : a.tmps[r]?.getD undef = x := by rw [← h4, Array.getD_eq_getD_getElem?]
  exact bodyPost_ret (v := .tuple #[v, u, x]) (by simp only [results, hres]; simp [Result.andThen, asAddr, h2', h3', h4', hl]) hd h
theorem ds_from (s : ByteArray) (k : Nat) : s.extract k s.size = st ((ls s).drop k) := by
  rw [← st_ls (s.extract k s.size), ls_part, List.take_of_length_le]
  rw [List.length_drop, ← ls_size]; exact Nat.le_refl _
theorem echeck_any (d : Dsc) (w : World) : Calls Tryd.prog 38 #[dsV d] w fun e w' => e = .returned (.int .i64 (dsE d)) ∧ Keeps w w' := by
  obtain ⟨X, hX⟩ : ∃ X, w.heap.size = X := ⟨_, rfl⟩
  obtain ⟨wA, hA⟩ : ∃ wX, w.alloc (.cells #[.int .i64 d.tag, .string d.body] 37) = wX := ⟨_, rfl⟩
  have HK := Lib.hid (show Keeps w wA by rw [← hA]; exact (Keeps.refl w).alloc _)
  have HX := (show CsAt X (dsC d) wA by rw [← hX, ← hA]; exact CsAt.made w #[.int .i64 d.tag, .string d.body] _ (by simp))
  have q0 := HX.cell 0 rfl
  have q1 := HX.cell 1 rfl
  clear HX
  by_cases h : 0 ≤ d.tag ∧ d.tag ≤ 255
  · by_cases k : 255 < d.body.size
    · have HE := Lib.hid (show dsE d = 11 by unfold dsE; rw [if_neg (fun x => x h), if_pos k])
      obtain ⟨tag, body⟩ := d
      simp only at *
      have h1 : ¬ tag < 0 := by omega
      have h2 : ¬ (255 : Int) < tag := by omega
      have ki : (255 : Int) < (body.size : Int) := by omega
      rw [HE.out]
      clear h k
      go_enter Tryd.func38, Tryd.ntmps38
      go_wp2
      go_ret
      exact ⟨rfl, HK.out⟩
    · have HE := Lib.hid (show dsE d = 0 by unfold dsE; rw [if_neg (fun x => x h), if_neg k])
      obtain ⟨tag, body⟩ := d
      simp only at *
      have h1 : ¬ tag < 0 := by omega
      have h2 : ¬ (255 : Int) < tag := by omega
      have ki : ¬ (255 : Int) < (body.size : Int) := by omega
      rw [HE.out]
      clear h k
      go_enter Tryd.func38, Tryd.ntmps38
      go_wp2
      go_ret
      exact ⟨rfl, HK.out⟩
  · have HE := Lib.hid (show dsE d = 15 by unfold dsE; rw [if_pos h])
    obtain ⟨tag, body⟩ := d
    simp only at *
    rw [HE.out]
    by_cases h1 : tag < 0
    · clear h
      go_enter Tryd.func38, Tryd.ntmps38
      go_wp2
      go_ret
      exact ⟨rfl, HK.out⟩
    · have h2 : (255 : Int) < tag := by omega
      clear h
      go_enter Tryd.func38, Tryd.ntmps38
      go_wp2
      go_ret
      exact ⟨rfl, HK.out⟩
/-- What takeOff answers. -/
def tkO (l : List UInt8) : Dsc × ByteArray × Int :=
  if l.length < 2 then (⟨0, ⟨#[]⟩⟩, ⟨#[]⟩, 10) else if l.length < 2 + (cf l 1).toNat then (⟨0, ⟨#[]⟩⟩, ⟨#[]⟩, 10) else
    (⟨((cf l 0).toNat : Int), st ((l.drop 2).take (cf l 1).toNat)⟩, st (l.drop (2 + (cf l 1).toNat)), 0)
theorem tkO_one {l : List UInt8} (h : l.length < 2) : tkO l = (⟨0, ⟨#[]⟩⟩, ⟨#[]⟩, 10) := if_pos h
theorem tkO_short {l : List UInt8} (h : ¬ l.length < 2) (k : l.length < 2 + (cf l 1).toNat) : tkO l = (⟨0, ⟨#[]⟩⟩, ⟨#[]⟩, 10) := by unfold tkO; rw [if_neg h, if_pos k]
theorem tkO_go {l : List UInt8} (h : ¬ l.length < 2) (k : ¬ l.length < 2 + (cf l 1).toNat) : tkO l = (⟨((cf l 0).toNat : Int), st ((l.drop 2).take (cf l 1).toNat)⟩, st (l.drop (2 + (cf l 1).toNat)), 0) := by unfold tkO; rw [if_neg h, if_neg k]
def DkPost (w : World) (q : Dsc × ByteArray × Int) (e : Ending) (w' : World) : Prop := e = .returned (.tuple #[dsV q.1, .string q.2.1, .int .i64 q.2.2]) ∧ Keeps w w'
theorem DkPost.of {w W : World} {q : Dsc × ByteArray × Int} {d : Dsc} {s : ByteArray} {n : Int} (h : q = (d, s, n)) (k : Keeps w W) : DkPost w q (.returned (.tuple #[dsV d, .string s, .int .i64 n])) W := by subst h; exact ⟨rfl, k⟩
set_option maxHeartbeats 3200000 in
theorem etake_any (s : ByteArray) (w : World) (hs : s.size ≤ 1000000) : Calls Tryd.prog 44 #[.string s] w (DkPost w (tkO (ls s))) := by
  have hl := ls_size s
  obtain ⟨b, hb⟩ : ∃ b, w.heap.size = b := ⟨_, rfl⟩
  obtain ⟨wA, hA⟩ : ∃ wX, w.alloc (.cells #[.int .i64 0, .string ⟨#[]⟩] 37) = wX := ⟨_, rfl⟩
  have A0 := Lib.hid (show CsAns w b (dsC ⟨0, ⟨#[]⟩⟩) wA from CsAns.start (Keeps.refl w) (by simp) hb hA)
  by_cases h2 : s.size < 2
  · have HE := Lib.hid (tkO_one (l := ls s) (by omega))
    have h2i : (s.size : Int) < 2 := by omega
    clear h2 hl
    go_enter Tryd.func44, Tryd.ntmps44
    go_wp2_with (refine dwp_stP (b := b) (off := 0) ⟨0, ⟨#[]⟩⟩ (A0.out.z.there (by decide)) rfl _ _ rfl rfl rfl ?_)
    have E := A0.out.ends (dsC ⟨0, ⟨#[]⟩⟩) rfl
    exact dcs_ret3 Tryd.results44 (dlvP E.z.r) rfl rfl rfl rfl (DkPost.of HE.out E.k)
  · have h2i : ¬ (s.size : Int) < 2 := by omega
    have z0 : 0 < s.size := by omega
    have z1 : 1 < s.size := by omega
    have g1 := ls_get s 1 z1
    have g0 := ls_get s 0 z0
    have i0 : (0 : Int) < (s.size : Int) := by omega
    have i1 : (1 : Int) < (s.size : Int) := by omega
    have HS := (fun k => tkO_short (l := ls s) (by omega) k)
    have HG := (fun k => tkO_go (l := ls s) (by omega) k)
    obtain ⟨c0, hc0⟩ : ∃ c, cf (ls s) 0 = c := ⟨_, rfl⟩
    obtain ⟨c1, hc1⟩ : ∃ c, cf (ls s) 1 = c := ⟨_, rfl⟩
    rw [hc0] at g0 HG
    rw [hc1] at g1 HS HG
    have b0 := u8_bd c0
    have b1 := u8_bd c1
    have e80 : (c0.toNat : Int) % 256 = (c0.toNat : Int) := by omega
    have e81 : (c1.toNat : Int) % 256 = (c1.toNat : Int) := by omega
    have v0 := wrapI (a := (c0.toNat : Int)) (by omega) (by omega)
    have v1 := wrapI (a := (c1.toNat : Int)) (by omega) (by omega)
    obtain ⟨E, hE⟩ : ∃ E : Nat, 2 + c1.toNat = E := ⟨_, rfl⟩
    have e1 : 2 + (c1.toNat : Int) = (E : Int) := by omega
    have v2 := wrapI (a := (E : Int)) (by omega) (by omega)
    rw [hE] at HS HG
    clear hc0 hc1
    by_cases hsh : s.size < E
    · have HE := Lib.hid (HS (by omega))
      have hshi : (s.size : Int) < (E : Int) := by omega
      clear hsh HS HG hE hl
      go_enter Tryd.func44, Tryd.ntmps44
      go_wp2_with (refine dwp_stP (b := b) (off := 0) ⟨0, ⟨#[]⟩⟩ (A0.out.z.there (by decide)) rfl _ _ rfl rfl rfl ?_)
      have E := A0.out.ends (dsC ⟨0, ⟨#[]⟩⟩) rfl
      exact dcs_ret3 Tryd.results44 (dlvP E.z.r) rfl rfl rfl rfl (DkPost.of HE.out E.k)
    · have HE := HG (by omega)
      have hshi : ¬ (s.size : Int) < (E : Int) := by omega
      have hEi : (E : Int) ≤ (s.size : Int) := by omega
      have hEn : E ≤ s.size := by omega
      have h2E : (2 : Int) ≤ (E : Int) := by omega
      have h2N : 2 ≤ E := by omega
      obtain ⟨P, hP⟩ : ∃ P, s.extract 2 E = P := ⟨_, rfl⟩
      obtain ⟨V, hV⟩ : ∃ V, s.extract E s.size = V := ⟨_, rfl⟩
      have HCL := Lib.hid (fun W => clone_any P W (by rw [← hP, ByteArray.size_extract]; omega))
      rw [show st ((List.drop 2 (ls s)).take c1.toNat) = P by rw [← hP, ← st_ls (s.extract 2 E), ls_part, ← hE, Nat.add_sub_cancel_left], show st ((ls s).drop E) = V by rw [← hV, ds_from]] at HE
      replace HE := Lib.hid HE
      clear hsh HS HG hE hl
      go_enter Tryd.func44, Tryd.ntmps44
      go_wp2
      refine wp_draw_tail 12 (by kernel_rfl)
        [.string s, .int .u8 (c0.toNat : Int), .int .i64 (c0.toNat : Int), .string s, .int .i64 (E : Int), .string P, .string P, .agg #[.int .i64 (c0.toNat : Int), .string P], .string s, .int .i64 (E : Int), .string V]
        (Once 11 (Keeps wA) (CsAns w b (dsC ⟨(c0.toNat : Int), P⟩))) rfl (by kernel_rfl) (by kernel_rfl) (fin := ?fin2) ?hfin2 (Once.start ((Keeps.refl wA).eqv (Eqv.drew wA))) ?each2 ?hend2
      case hfin2 => simp [seqA, dstOf, Act.put]; rfl
      case each2 =>
        refine ⟨?_, ?_, ?_, ?_, ?_, ?_, ?_, ?_, ?_, ?_, ?_, ?_, trivial⟩
        all_goals intro L w5 h0 hd hsh hw
        all_goals unfold Does
        rotate_left 6
        · go_simp
          refine (HCL.out w5).mono ?_
          rintro e w6 ⟨rfl, k6⟩
          exact ⟨_, rfl, rfl, fun _ k => hw.keep (by decide) k (fun h => h.trans k6) (fun h => h.keeps k6)⟩
        rotate_left 4
        · have A5 := A0.out.keeps (hw.1 h0)
          have f0 := A5.z.fz 0 (show 0 < 2 by decide)
          have f1 := A5.z.fz 1 (show 1 < 2 by decide)
          have e0 := A5.z.cell 0 rfl
          have e1 := A5.z.cell 1 rfl
          have E : CsAns w b (dsC ⟨(c0.toNat : Int), P⟩) ((w5.setCell ⟨b, 0, none⟩ (.int .i64 (c0.toNat : Int))).setCell ⟨b, 1, none⟩ (.string P)) := (A5.set 0 (show 0 < 2 by decide) (.int .i64 (c0.toNat : Int))).set 1 (show 1 < 2 by decide) (.string P)
          go_simp
          exact fun L' k => Once.done k E
        all_goals (go_simp; exact fun L' k => hw.same (by decide) k)
      case hend2 =>
      intro L w9 hL hw
      have E9 := Lib.hid (hw.2 (hL 11 (by decide)))
      simp only [List.drop_succ_cons, List.drop_zero]
      clear hw hL
      go_wp2
      exact dcs_ret3 Tryd.results44 (dlvP E9.out.z.r) rfl rfl rfl rfl (DkPost.of HE.out E9.out.k)
def dsLen : Value → Nat
  | .string s => s.size
  | _ => 0
structure EpK (w0 : World) (l r : List UInt8) (acc : List Dsc) (v : Value) (w : World) : Prop where
  sp : prs l = (prs r).map fun x => acc ++ x
  len : acc.length + r.length ≤ l.length
  own : OwnE rowD w w0.heap.size v acc
  kp : Keeps w0 w
def EpJ (w0 : World) (l : List UInt8) (a : Act) (w : World) : Prop :=
  ∃ (r : List UInt8) (acc : List Dsc) (v : Value), EpK w0 l r acc v w ∧ a.tmps.size = 28 ∧ a.defers = [] ∧ a.tmps.toList.take 5 = [.string (st r), undef, .slice none 0 0, .int .i64 0, v]
/-- Parse's answer, in memory. -/
def EaPost (w : World) (q : List Dsc × Int) (e : Ending) (w' : World) : Prop := ∃ a cap, e = .returned (.tuple #[.slice a q.1.length cap, .int .i64 q.2]) ∧ IsE rowD w' a q.1.length q.1 ∧ q.1.length ≤ cap ∧ (∀ x, a = some x → w.heap.size ≤ x.block) ∧ Keeps w w'
theorem EaPost.no {w W : World} {q : List Dsc × Int} {n : Int} (h : q = ([], n)) (k : Keeps w W) : EaPost w q (.returned (.tuple #[.slice none 0 0, .int .i64 n])) W := by
  subst h; exact ⟨none, 0, rfl, IsE.nil _ _, Nat.le_refl _, fun x hx => (by cases hx), k⟩
theorem EaPost.yes {w W : World} {q : List Dsc × Int} {l : List Dsc} {v : Value} (h : q = (l, 0)) (o : OwnE rowD W w.heap.size v l) (k : Keeps w W) : EaPost w q (.returned (.tuple #[v, .int .i64 0])) W := by
  subst h
  obtain ⟨a, cap, rfl, hi, hb⟩ := o.row16
  obtain ⟨a3, c3, hv3, _, hlc⟩ := o.is
  simp only [Value.slice.injEq] at hv3
  obtain ⟨rfl, _, rfl⟩ := hv3
  exact ⟨a, cap, rfl, hi, hlc, hb, k⟩
def dsR (r : List UInt8) : Dsc := ⟨((cf r 0).toNat : Int), st ((r.drop 2).take (cf r 1).toNat)⟩
theorem EpK.next {w0 w w' : World} {l r : List UInt8} {acc : List Dsc} {v v' : Value} (h : EpK w0 l r acc v w) (h2 : ¬ r.length < 2) (h3 : ¬ r.length < 2 + (cf r 1).toNat) (o : OwnE rowD w' w0.heap.size v' (acc ++ [dsR r])) (k : Keeps w0 w') : EpK w0 l (r.drop (2 + (cf r 1).toNat)) (acc ++ [dsR r]) v' w' := by
  refine ⟨?_, ?_, o, k⟩
  · rw [h.sp, prs_go h2 h3, Option.map_map]
    congr 1
    funext x
    simp [dsR]
  · have := h.len
    rw [List.length_drop, List.length_append, List.length_singleton]; omega
theorem EpK.no {w0 w : World} {l r : List UInt8} {acc : List Dsc} {v : Value} (h : EpK w0 l r acc v w) (h0 : r ≠ []) (hr : r.length < 2 ∨ r.length < 2 + (cf r 1).toNat) : prs l = none := by
  rw [h.sp]
  by_cases h2 : r.length < 2
  · rw [prs_one h0 h2]; rfl
  · rw [prs_short h2 (hr.resolve_left h2)]; rfl
theorem EpK.done {w0 w : World} {l : List UInt8} {acc : List Dsc} {v : Value} (h : EpK w0 l [] acc v w) : prs l = some acc := by
  rw [h.sp, prs_nil]
  simp
set_option maxHeartbeats 3200000 in
theorem eparse_any (s : ByteArray) (w : World) (hs : s.size ≤ 1000000) : Calls Tryd.prog 15 #[.string s] w (EaPost w (parse (ls s))) := by
  have hl := ls_size s
  by_cases hbig : 4095 < s.size
  · have HF := Lib.hid (parse_long (s := ls s) (by omega))
    have hbi : (4095 : Int) < (s.size : Int) := by omega
    clear hbig hl
    go_enter Tryd.func15, Tryd.ntmps15
    go_wp2
    refine scope_loop (rest := ?rest) 0 (fun _ _ => False) (fun _ _ => 0) ?hf0 ?pass0 ?first0
    case hf0 => rfl
    case pass0 => intro a w' h; exact h.elim
    case first0 =>
      intro hrest
      clear hrest
      go_wp2
      show bodyPost Tryd.prog Tryd.f15 (EaPost w (parse (ls s))) Exit.ret _ _
      go_ret2
      exact EaPost.no HF.out (Keeps.refl w)
  have HNL := Lib.hid (show ¬ 4095 < (ls s).length by omega)
  have hbi : ¬ (4095 : Int) < (s.size : Int) := by omega
  have hs4 : s.size ≤ 4095 := by omega
  clear hbig hl
  go_enter Tryd.func15, Tryd.ntmps15
  go_wp2
  refine scope_loop (rest := ?rest) 0 (EpJ w (ls s)) (fun a _ => dsLen (a.tmps.getD 0 undef)) ?hf ?pass ?first
  case hf => rfl
  case first =>
    intro hrest
    have HREST := Lib.hid hrest
    clear hrest
    go_wp2
    go_step3
    rename_i hK
    refine hK _ _ (HREST.out _ _ ⟨ls s, [], .slice none 0 0, ⟨by simp, by simp, OwnE.nil _ _, Keeps.refl w⟩, rfl, rfl, ?_⟩)
    rw [st_ls]; rfl
  case pass =>
    rintro a w' ⟨r, acc, v, hK, hfs, hfd, hft⟩
    obtain ⟨us, rfl⟩ := frameN 23 [.string (st r), undef, .slice none 0 0, .int .i64 0, v] hfs hfd hft
    simp only [tailF, List.cons_append, List.nil_append, Nat.reduceAdd]
    have hlen := hK.len
    rw [← ls_size] at hlen
    have HKK := Lib.hid hK
    clear hfs hfd hft hK
    have hsz := st_size r
    obtain ⟨S, hS⟩ : ∃ S, st r = S := ⟨_, rfl⟩
    have HS := Lib.hid (show ls S = r by rw [← hS, ls_st])
    rw [hS] at hsz
    rw [hS]
    clear hS
    by_cases h0 : r = []
    · subst h0
      have hE2 : S.toList.isEmpty = true := by rw [ls_toList, HS.out]; rfl
      have hd := HKK.out.done
      have HO := Lib.hid (EaPost.yes (parse_some HNL.out hd) HKK.out.own HKK.out.kp)
      clear hsz hd
      go_wp2
      show bodyPost Tryd.prog Tryd.f15 (EaPost w (parse (ls s))) Exit.ret _ _
      go_ret2
      exact HO.out
    · have hE2 : S.toList.isEmpty = false := by
        rw [ls_toList, HS.out]
        cases r with
        | nil => exact absurd rfl h0
        | cons _ _ => rfl
      have HTK := Lib.hid (fun W => etake_any S W (by omega))
      unfold DkPost at HTK
      rw [HS.out] at HTK
      by_cases h4 : r.length < 2 ∨ r.length < 2 + (cf r 1).toNat
      · have hbad : tkO r = (⟨0, ⟨#[]⟩⟩, ⟨#[]⟩, 10) := by
          by_cases h2 : r.length < 2
          · exact tkO_one h2
          · exact tkO_short h2 (h4.resolve_left h2)
        simp only [hbad] at HTK
        have HP := Lib.hid (show ∀ W, Keeps w' W → EaPost w (parse (ls s)) (.returned (.tuple #[.slice none 0 0, .int .i64 10])) W from fun W k => EaPost.no (parse_none HNL.out (HKK.out.no h0 h4)) (HKK.out.kp.trans k))
        clear hsz h0 h4 hbad
        go_wp2_with (go_at_call 44; refine (HTK.out _).mono ?_; rintro _ w2 ⟨rfl, k2⟩; have HK2 := Lib.hid k2; clear k2)
        show bodyPost Tryd.prog Tryd.f15 (EaPost w (parse (ls s))) Exit.ret _ _
        go_ret2
        exact HP.out _ (HK2.out.alloc _)
      · have h5 : ¬ r.length < 2 := fun x => h4 (.inl x)
        have h6 : ¬ r.length < 2 + (cf r 1).toNat := fun x => h4 (.inr x)
        simp only [tkO_go h5 h6] at HTK
        have HNX := Lib.hid (fun v' W => HKK.out.next (v' := v') (w' := W) h5 h6)
        rw [show dsR r = ⟨((cf r 0).toNat : Int), st ((r.drop 2).take (cf r 1).toNat)⟩ from rfl] at HNX
        obtain ⟨N1, hN1⟩ : ∃ N : Int, ((cf r 0).toNat : Int) = N := ⟨_, rfl⟩
        obtain ⟨N2, hN2⟩ : ∃ N, st ((r.drop 2).take (cf r 1).toNat) = N := ⟨_, rfl⟩
        obtain ⟨R2, hR2⟩ : ∃ R2, r.drop (2 + (cf r 1).toNat) = R2 := ⟨_, rfl⟩
        obtain ⟨V, hV⟩ : ∃ V, st R2 = V := ⟨_, rfl⟩
        have HV := Lib.hid hV
        have HVZ := Lib.hid (show V.size < S.size by rw [← hV, st_size, ← hR2, List.length_drop]; omega)
        rw [hN1, hN2, hR2] at HNX
        simp only [hN1, hN2, hR2, hV] at HTK
        have HOW := Lib.hid HKK.out.own
        have HP := Lib.hid HKK.out.kp
        have hal : acc.length ≤ 100000000 := by omega
        clear hsz h0 h4 h5 h6 hN1 hN2 hV hR2
        go_wp2_with (first | (go_at_call 44; refine (HTK.out _).mono ?_; rintro _ w3 ⟨rfl, k3⟩; have HK3 := Lib.hid ((k3 : Keeps _ _).alloc (.cells #[.int .i64 N1, .string N2] 37)); clear k3) | (at_builtin; refine wp_pushE (T := rowD) rfl _ _ rfl ⟨N1, N2⟩ _ rfl (w3.heap.size + 1) (by simp) (HOW.out.keeps HK3.out) rfl rfl hal (Below.size (HP.out.trans HK3.out)) _ ?_; intro v5 w5 own5 grow5 at5))
        go_step3
        have HNN := HNX.out v5 w5 own5 (((HP.out.trans HK3.out).alloc _).grown grow5 (HOW.out.keeps HK3.out).block)
        exact ⟨rfl, ⟨R2, acc ++ [⟨N1, N2⟩], v5, HNN, rfl, rfl, by rw [HV.out]; rfl⟩, HVZ.out⟩
/-- The first one of a tag. -/
def fnd (l : List Dsc) (t : Int) : Dsc × Int := match l.find? (fun d => d.tag == t) with
  | some d => (⟨t, d.body⟩, 0)
  | none => (⟨0, ⟨#[]⟩⟩, 18)
theorem fnd_at {l : List Dsc} {t : Int} {k : Nat} (hk : k < l.length) (h : ∀ d ∈ l.take k, d.tag ≠ t) (e : l[k].tag = t) : fnd l t = (l[k], 0) := by
  have hf : l.find? (fun d => d.tag == t) = some l[k] := by
    induction l generalizing k with
    | nil => simp at hk
    | cons d l ih =>
      cases k with
      | zero =>
        have e' : d.tag = t := e
        rw [List.find?_cons_of_pos (by simpa using e')]; rfl
      | succ k =>
        have hd : d.tag ≠ t := h d (by rw [List.take_succ_cons]; exact List.mem_cons_self ..)
        rw [List.find?_cons_of_neg (by simpa using hd)]
        exact ih (by simpa using hk) (fun x hx => h x (by rw [List.take_succ_cons]; exact List.mem_cons_of_mem _ hx)) e
  unfold fnd
  rw [hf]
  show ((⟨t, l[k].body⟩ : Dsc), (0 : Int)) = _
  rw [← e]
theorem fnd_no {l : List Dsc} {t : Int} (h : ∀ d ∈ l, d.tag ≠ t) : fnd l t = (⟨0, ⟨#[]⟩⟩, 18) := by
  have hf : l.find? (fun d => d.tag == t) = none := List.find?_eq_none.2 fun d hd => by simpa using h d hd
  unfold fnd
  rw [hf]
set_option maxHeartbeats 3200000 in
theorem efind_any {a : Option Addr} {n cap : Nat} {l : List Dsc} (t : Int) (w : World) (h : IsE rowD w a n l) (hn : n ≤ 1000000) (hb : ∀ d ∈ l, d.body.size ≤ 1000000) :
    Calls Tryd.prog 18 #[.slice a n cap, .int .i64 t] w (DmPost w (fnd l t)) := by
  obtain ⟨b, hbz⟩ : ∃ b, w.heap.size = b := ⟨_, rfl⟩
  obtain ⟨wA, hA⟩ : ∃ wX, w.alloc (.cells #[.int .i64 0, .string ⟨#[]⟩] 37) = wX := ⟨_, rfl⟩
  have A0 := Lib.hid (show CsAns w b (dsC ⟨0, ⟨#[]⟩⟩) wA from CsAns.start (Keeps.refl w) (by simp) hbz hA)
  have HI := Lib.hid (h.keeps A0.out.k)
  have HN := Lib.hid h.1
  have HB := Lib.hid hb
  clear h hb
  go_enter Tryd.func18, Tryd.ntmps18
  go_wp2
  go_loopw [10] (fun i wr => ∃ k : Nat, k ≤ n ∧ i = .int .i64 (k : Int) ∧ (∀ d ∈ l.take k, d.tag ≠ t) ∧ Keeps wA wr) (fun i _ => n - (intOf i).toNat)
  case atStart => exact ⟨0, Nat.zero_le _, rfl, by simp, Keeps.refl _⟩
  case round =>
    obtain ⟨k, hk, rfl, hall, hkp⟩ := hrel
    have HALL := Lib.hid hall
    have HK := Lib.hid hkp
    clear hall hkp
    by_cases hlt : k < n
    · have hlI : (k : Int) < (n : Int) := by omega
      have hkL : k < l.length := by have := HN.out; omega
      obtain ⟨g, off, rfl, hg, hcc⟩ := (HI.out.keeps HK.out).get hkL
      have hbd := HB.out l[k] (List.getElem_mem hkL)
      have HAT := Lib.hid (fun e => fnd_at hkL HALL.out e)
      have HNX := Lib.hid (show l[k].tag ≠ t → ∀ s ∈ l.take (k + 1), s.tag ≠ t from fun h s hs => by
        rw [List.take_add_one, List.getElem?_eq_getElem hkL] at hs
        rcases List.mem_append.1 hs with y | y
        · exact HALL.out s y
        · rw [List.mem_singleton.1 y]; exact h)
      obtain ⟨⟨t1, t2⟩, hp⟩ : ∃ q : Dsc, l[k] = q := ⟨_, rfl⟩
      rw [hp] at hcc HAT HNX hbd
      have x0 : wr.cell? ⟨g, off + k * 2, none⟩ = some (.int .i64 t1) := hcc 0 _ rfl
      have x1 : wr.cell? ⟨g, off + k * 2 + 1, none⟩ = some (.string t2) := by rw [Nat.add_assoc]; exact hcc 1 _ rfl
      have v1 := wrapI (a := (k : Int) + 1) (by omega) (by omega)
      have HCL := Lib.hid (fun W => clone_any t2 W (by have : t2.size ≤ 1000000 := hbd; omega))
      clear hcc hp hg
      by_cases he : t1 = t
      · have HF := Lib.hid (HAT.out he)
        subst he
        have HAK := Lib.hid (A0.out.keeps HK.out)
        go_wp2_with (first | (go_at_call 45; refine (HCL.out _).mono ?_; rintro _ w3 ⟨rfl, k3⟩; have HA3 := Lib.hid ((HAK.out.alloc (.cells #[.int .i64 t1, .string t2] 37)).keeps k3); clear k3) | (refine dwp_stP (b := b) (off := 0) ⟨t1, t2⟩ (HA3.out.z.there (by decide)) rfl _ _ rfl rfl rfl ?_))
        refine cs_ret2 Tryd.results18 (dlvP (s := ⟨t1, t2⟩) (HA3.out.ends (dsC ⟨t1, t2⟩) rfl).z.r) rfl rfl rfl ?_
        exact ⟨(by rw [HF.out]; rfl), (HA3.out.ends (dsC ⟨t1, t2⟩) rfl).k⟩
      · have heq : (t1 == t) = false := by rw [beq_eq_false_iff_ne]; exact he
        have HNY := Lib.hid (HNX.out he)
        have HKN := Lib.hid (HK.out.alloc (.cells #[.int .i64 t1, .string t2] 37))
        clear he
        go_wp2
        go_roundw
        case rel => exact ⟨k + 1, by omega, by go_num, HNY.out, HKN.out⟩
        case measure => simp [intOf]; omega
    · have hlI : ¬ (k : Int) < (n : Int) := by omega
      have HF := Lib.hid (fnd_no (l := l) (t := t) (by rw [← show l.take k = l from List.take_of_length_le (by have := HN.out; omega)]; exact HALL.out))
      have HAK := Lib.hid (A0.out.keeps HK.out)
      go_wp2_with (refine dwp_stP (b := b) (off := 0) ⟨0, ⟨#[]⟩⟩ (HAK.out.z.there (by decide)) rfl _ _ rfl rfl rfl ?_)
      refine cs_ret2 Tryd.results18 (dlvP (s := ⟨0, ⟨#[]⟩⟩) (HAK.out.ends (dsC ⟨0, ⟨#[]⟩⟩) rfl).z.r) rfl rfl rfl ?_
      exact ⟨(by rw [HF.out]; rfl), (HAK.out.ends (dsC ⟨0, ⟨#[]⟩⟩) rfl).k⟩
end Go.Proofs.YtlghkdkaifcliaaDoor
