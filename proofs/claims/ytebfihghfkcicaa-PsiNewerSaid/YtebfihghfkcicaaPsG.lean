/-
  How package psi takes programs and streams off a text. The memory that was there stays.
-/
import Derived.Test.YtebfihghfkcicaaPsF
import Derived.Test.YtebfihghfkcicaaPsDec
namespace Go.Proofs.Ytebfihghfkcicaa
open Go.RowKit Gf Ps Sct
set_option maxRecDepth 100000
/-- The end of a function that answers a struct, in a cell, and two other values. -/
theorem cs_ret3 {W : World} {a : Act} {fn : Func} {T : TypeId} {b p q r : Nat} {v u x : Value} {Q : Ending → World → Prop} (hres : fn.results = #[.cell p T, .tmp q, .tmp r])
    (hl : (loadVar T ⟨b, 0, none⟩).run Try.prog W = .ok v W) (h2 : a.tmps.getD p undef = .pointer (some ⟨b, 0, none⟩)) (h3 : a.tmps.getD q undef = u) (h4 : a.tmps.getD r undef = x) (hd : a.defers = [])
    (h : Q (.returned (.tuple #[v, u, x])) W) : bodyPost Try.prog fn Q Exit.ret a W := by
  have h2' : a.tmps[p]?.getD undef = .pointer (some ⟨b, 0, none⟩) := by rw [← h2, Array.getD_eq_getD_getElem?]
  have h3' : a.tmps[q]?.getD undef = u := by rw [← h3, Array.getD_eq_getD_getElem?]
  have h4' : a.tmps[r]?.getD undef = x := by rw [← h4, Array.getD_eq_getD_getElem?]
  exact bodyPost_ret (v := .tuple #[v, u, x]) (by simp only [results, hres]; simp [Result.andThen, asAddr, h2', h3', h4', hl]) hd h
theorem ps_from (s : ByteArray) (k : Nat) : s.extract k s.size = st ((ls s).drop k) := by
  rw [← st_ls (s.extract k s.size), ls_part, List.take_of_length_le]
  rw [List.length_drop, ← ls_size]; exact Nat.le_refl _
theorem ps_upto (s : ByteArray) (k : Nat) : s.extract 0 k = st ((ls s).take k) := by
  rw [← st_ls (s.extract 0 k), ls_part, List.drop_zero, Nat.sub_zero]
theorem ps_cf (l : List UInt8) (n i : Nat) : cf (l.drop n) i = cf l (n + i) := by
  unfold cf
  rw [List.getD_eq_getElem?_getD, List.getD_eq_getElem?_getD, List.getElem?_drop]
/-- The two bytes at i as a number. -/
def w2 (l : List UInt8) (i : Nat) : Int := ((cf l i).toNat : Int) * 256 + ((cf l (i + 1)).toNat : Int)
theorem w2_bd (l : List UInt8) (i : Nat) : 0 ≤ w2 l i ∧ w2 l i ≤ 65535 := by
  have := u8_bd (cf l i)
  have := u8_bd (cf l (i + 1))
  unfold w2; omega
theorem psoftwo_at (s : ByteArray) (k : Nat) (h : k + 2 ≤ s.size) (w : World) :
    Calls Try.prog 38 #[.string (s.extract k s.size)] w fun e w' => e = .returned (.int .i64 (w2 (ls s) k)) ∧ Eqv w w' := by
  have := psoftwo_any (s.extract k s.size) (by rw [ByteArray.size_extract]; omega) w
  rw [ps_from, ls_st, ps_cf, ps_cf] at this
  rw [ps_from]
  exact this
theorem psoftwo_0 (s : ByteArray) (h : 2 ≤ s.size) (w : World) : Calls Try.prog 38 #[.string s] w fun e w' => e = .returned (.int .i64 (w2 (ls s) 0)) ∧ Eqv w w' := psoftwo_any s h w
theorem lvPr {w : World} {b : Nat} {p q : Int} (h : CsAt b [.int .i64 p, .int .i64 q] w) : (loadVar 52 ⟨b, 0, none⟩).run Try.prog w = .ok (.agg #[.int .i64 p, .int .i64 q]) w :=
  run_loadVar_mid (P := Try.prog) w b 0 _ [.int .i64 p, .int .i64 q] _ h.r Try.underlying52 rfl (by kernel_rfl)
theorem one_pr (p q : Int) : (#[Value.int .i64 p, .int .i64 q] : Array Value).all (·.oneCell') = true :=
  all_oneCell_toArray (cs := [.int .i64 p, .int .i64 q]) fun u hu => by
    simp only [List.mem_cons, List.not_mem_nil, or_false] at hu
    rcases hu with rfl | rfl <;> rfl
theorem one_st (p q : Int) (r : ByteArray) : (#[Value.int .i64 p, .int .i64 q, .string r] : Array Value).all (·.oneCell') = true :=
  all_oneCell_toArray (cs := [.int .i64 p, .int .i64 q, .string r]) fun u hu => by
    simp only [List.mem_cons, List.not_mem_nil, or_false] at hu
    rcases hu with rfl | rfl | rfl <;> rfl
theorem one_pc (p : Int) (r : ByteArray) : (#[Value.int .i64 p, .string r] : Array Value).all (·.oneCell') = true :=
  all_oneCell_toArray (cs := [.int .i64 p, .string r]) fun u hu => by
    simp only [List.mem_cons, List.not_mem_nil, or_false] at hu
    rcases hu with rfl | rfl <;> rfl
def TkPost (w : World) (r : Value × ByteArray × Int) (e : Ending) (w' : World) : Prop := e = .returned (.tuple #[r.1, .string r.2.1, .int .i64 r.2.2]) ∧ Keeps w w'
set_option maxHeartbeats 1600000 in
theorem pstakep_any (s : ByteArray) (w : World) : Calls Try.prog 25 #[.string s] w (TkPost w (if s.size < 4 then (.agg #[.int .i64 0, .int .i64 0], ⟨#[]⟩, 10) else (.agg #[.int .i64 (w2 (ls s) 0), .int .i64 (w2 (ls s) 2 % 8192)], s.extract 4 s.size, 0))) := by
  obtain ⟨b, hb⟩ : ∃ b, w.heap.size = b := ⟨_, rfl⟩
  obtain ⟨wA, hA⟩ : ∃ wA, w.alloc (.cells #[.int .i64 0, .int .i64 0] 52) = wA := ⟨_, rfl⟩
  have A0 := Lib.hid (CsAns.start (Keeps.refl w) (a := #[.int .i64 0, .int .i64 0]) (by simp) hb hA)
  by_cases h4 : s.size < 4
  · rw [if_pos h4]
    have h4i : (s.size : Int) < 4 := by omega
    clear h4
    go_enter Try.func25, Try.ntmps25
    go_wp2_with (refine wpList_store_mid rfl 52 _ _ rfl b 0 #[.int .i64 0, .int .i64 0] rfl rfl (A0.out.z.there (o := 0) (n := 2) (show 0 + 2 ≤ 2 by decide)) (by kernel_rfl) (one_pr _ _) ?_)
    have E := A0.out.ends [.int .i64 0, .int .i64 0] rfl
    exact cs_ret3 Try.results25 (lvPr E.z) rfl rfl rfl rfl ⟨rfl, E.k⟩
  · rw [if_neg h4]
    have h4i : ¬ (s.size : Int) < 4 := by omega
    have C0 := Lib.hid (fun W => psoftwo_0 s (by omega) W)
    have C2 := Lib.hid (fun W => psoftwo_at s 2 (by omega) W)
    have hb2 := w2_bd (ls s) 2
    obtain ⟨N1, hN1⟩ : ∃ N, w2 (ls s) 0 = N := ⟨_, rfl⟩
    obtain ⟨N2, hN2⟩ : ∃ N, w2 (ls s) 2 = N := ⟨_, rfl⟩
    obtain ⟨U, hU⟩ : ∃ U, s.extract 2 s.size = U := ⟨_, rfl⟩
    obtain ⟨R, hR⟩ : ∃ R, s.extract 4 s.size = R := ⟨_, rfl⟩
    rw [hN2] at hb2
    obtain ⟨b1, b2⟩ := hb2
    simp only [hN1] at C0
    simp only [hN2, hU] at C2
    rw [hN1, hN2, hR]
    have hm : bits .and .i64 N2 8191 = N2 % 8192 := i64_mask 13 b1 (by omega) (by decide) (by decide)
    have hz : (4 : Int) ≤ (s.size : Int) := by omega
    have hzz : (2 : Int) ≤ (s.size : Int) := by omega
    have hz4 : 4 ≤ s.size := by omega
    have hz2 : 2 ≤ s.size := by omega
    clear hN1 hN2 h4
    go_enter Try.func25, Try.ntmps25
    go_wp2
    refine wp_draw_tail 10 (by kernel_rfl)
      [.string s, .int .i64 N1, .string s, .string U, .int .i64 N2, .int .i64 (N2 % 8192), .agg #[.int .i64 N1, .int .i64 (N2 % 8192)], .string s, .string R]
      (Once 9 (Eqv wA) (CsAns w b [.int .i64 N1, .int .i64 (N2 % 8192)])) rfl (by kernel_rfl) (by kernel_rfl) (fin := ?fin) ?hfin (Once.start (Eqv.drew wA)) ?each ?hend
    case hfin => simp [seqA, dstOf, Act.put]; rfl
    case each =>
      refine ⟨?_, ?_, ?_, ?_, ?_, ?_, ?_, ?_, ?_, ?_, trivial⟩
      all_goals intro L w5 h0 hd hsh hw
      all_goals unfold Does
      rotate_left 1
      · go_simp
        refine (C0.out w5).mono ?_
        rintro e w6 ⟨rfl, k6⟩
        exact ⟨_, rfl, rfl, fun _ k => hw.keep (by decide) k (fun h => h.trans k6) (fun h => h.eqv k6)⟩
      rotate_left 2
      · go_simp
        refine (C2.out w5).mono ?_
        rintro e w6 ⟨rfl, k6⟩
        exact ⟨_, rfl, rfl, fun _ k => hw.keep (by decide) k (fun h => h.trans k6) (fun h => h.eqv k6)⟩
      rotate_left 4
      · have A5 := A0.out.eqv (hw.1 h0)
        have f0 := A5.z.fz 0 (show 0 < 2 by decide)
        have f1 := A5.z.fz 1 (show 1 < 2 by decide)
        have e0 := A5.z.cell 0 rfl
        have e1 := A5.z.cell 1 rfl
        have E : CsAns w b [.int .i64 N1, .int .i64 (N2 % 8192)] ((w5.setCell ⟨b, 0, none⟩ (.int .i64 N1)).setCell ⟨b, 1, none⟩ (.int .i64 (N2 % 8192))) := (A5.set 0 (show 0 < 2 by decide) (.int .i64 N1)).set 1 (show 1 < 2 by decide) (.int .i64 (N2 % 8192))
        go_simp
        exact fun L' k => Once.done k E
      all_goals (go_simp; exact fun L' k => hw.same (by decide) k)
    case hend =>
    intro L w8 hL hw
    have E := Lib.hid (hw.2 (hL 9 (by decide)))
    simp only [List.drop_succ_cons, List.drop_zero]
    clear hw hL
    go_wp2
    exact cs_ret3 Try.results25 (lvPr E.out.z) rfl rfl rfl rfl ⟨rfl, E.out.k⟩
/-- How many bytes the Info has of which the length stands at i. -/
def wl (l : List UInt8) (i : Nat) : Nat := ((cf l i).toNat * 256 + (cf l (i + 1)).toNat) % 4096
theorem wl_w2 (l : List UInt8) (i : Nat) : w2 l i % 4096 = ((wl l i : Nat) : Int) := by unfold w2 wl; omega
theorem w2_nat (l : List UInt8) (i : Nat) : w2 l i % 8192 = ((((cf l i).toNat * 256 + (cf l (i + 1)).toNat) % 8192 : Nat) : Int) := by unfold w2; omega
/-- A piece off a text: Pid, Info, what is behind it, and what is wrong. -/
def tpR (l : List UInt8) : (Int × ByteArray) × ByteArray × Int :=
  if l.length < 4 then ((0, ⟨#[]⟩), ⟨#[]⟩, 10) else if l.length < 4 + wl l 2 then ((0, ⟨#[]⟩), ⟨#[]⟩, 10) else ((w2 l 0 % 8192, st ((l.drop 4).take (wl l 2))), st (l.drop (4 + wl l 2)), 0)
theorem tpR_few {l : List UInt8} (h : l.length < 4) : tpR l = ((0, ⟨#[]⟩), ⟨#[]⟩, 10) := by unfold tpR; rw [if_pos h]
theorem tpR_short {l : List UInt8} (h : ¬ l.length < 4) (k : l.length < 4 + wl l 2) : tpR l = ((0, ⟨#[]⟩), ⟨#[]⟩, 10) := by unfold tpR; rw [if_neg h, if_pos k]
theorem tpR_ok {l : List UInt8} (h : ¬ l.length < 4) (k : ¬ l.length < 4 + wl l 2) : tpR l = ((w2 l 0 % 8192, st ((l.drop 4).take (wl l 2))), st (l.drop (4 + wl l 2)), 0) := by unfold tpR; rw [if_neg h, if_neg k]
def TpPost (w : World) (r : (Int × ByteArray) × ByteArray × Int) (e : Ending) (w' : World) : Prop := e = .returned (.tuple #[pcV r.1.1 r.1.2, .string r.2.1, .int .i64 r.2.2]) ∧ Keeps w w'
theorem TpPost.of {w W : World} {r : (Int × ByteArray) × ByteArray × Int} {a : Int} {b c : ByteArray} {d : Int} (e : r = ((a, b), c, d)) (k : Keeps w W) : TpPost w r (.returned (.tuple #[pcV a b, .string c, .int .i64 d])) W := by subst e; exact ⟨rfl, k⟩
theorem lvPc {w : World} {b : Nat} {p : Int} {q : ByteArray} (h : CsAt b [.int .i64 p, .string q] w) : (loadVar 73 ⟨b, 0, none⟩).run Try.prog w = .ok (.agg #[.int .i64 p, .string q]) w :=
  run_loadVar_mid (P := Try.prog) w b 0 _ [.int .i64 p, .string q] _ h.r Try.underlying73 rfl (by kernel_rfl)
set_option maxHeartbeats 1600000 in
theorem pstakepc_any (s : ByteArray) (w : World) (hs : s.size ≤ 1000000) : Calls Try.prog 26 #[.string s] w (TpPost w (tpR (ls s))) := by
  obtain ⟨b, hb⟩ : ∃ b, w.heap.size = b := ⟨_, rfl⟩
  obtain ⟨wA, hA⟩ : ∃ wA, w.alloc (.cells #[.int .i64 0, .string ⟨#[]⟩] 73) = wA := ⟨_, rfl⟩
  have A0 := Lib.hid (CsAns.start (Keeps.refl w) (a := #[.int .i64 0, .string ⟨#[]⟩]) (by simp) hb hA)
  have hsz := ls_size s
  by_cases h4 : s.size < 4
  · have HE := Lib.hid (tpR_few (l := ls s) (by omega))
    have h4i : (s.size : Int) < 4 := by omega
    clear h4 hsz
    go_enter Try.func26, Try.ntmps26
    go_wp2_with (refine wpList_store_mid rfl 73 _ _ rfl b 0 #[.int .i64 0, .string ⟨#[]⟩] rfl rfl (A0.out.z.there (o := 0) (n := 2) (show 0 + 2 ≤ 2 by decide)) (by kernel_rfl) (one_pc _ _) ?_)
    have E := A0.out.ends [.int .i64 0, .string ⟨#[]⟩] rfl
    exact cs_ret3 Try.results26 (lvPc E.z) rfl rfl rfl rfl (TpPost.of HE.out E.k)
  · have h4i : ¬ (s.size : Int) < 4 := by omega
    have C0 := Lib.hid (fun W => psoftwo_0 s (by omega) W)
    have C2 := Lib.hid (fun W => psoftwo_at s 2 (by omega) W)
    have hb2 := w2_bd (ls s) 2
    have hb0 := w2_bd (ls s) 0
    have hwl := wl_w2 (ls s) 2
    have HR0 := tpR_short (l := ls s) (by omega)
    have HR1 := tpR_ok (l := ls s) (by omega)
    obtain ⟨n, hn⟩ : ∃ n, wl (ls s) 2 = n := ⟨_, rfl⟩
    rw [hn] at hwl HR0 HR1
    obtain ⟨N1, hN1⟩ : ∃ N, w2 (ls s) 0 = N := ⟨_, rfl⟩
    obtain ⟨N2, hN2⟩ : ∃ N, w2 (ls s) 2 = N := ⟨_, rfl⟩
    obtain ⟨U, hU⟩ : ∃ U, s.extract 2 s.size = U := ⟨_, rfl⟩
    obtain ⟨R, hR⟩ : ∃ R, s.extract 4 s.size = R := ⟨_, rfl⟩
    have hRz : R.size = s.size - 4 := by rw [← hR, ByteArray.size_extract]; omega
    have hRl : ls R = (ls s).drop 4 := by rw [← hR, ps_from, ls_st]
    rw [hN2] at hb2 hwl
    rw [hN1] at hb0 HR1
    obtain ⟨b1, b2⟩ := hb2
    obtain ⟨b3, b4⟩ := hb0
    simp only [hN1] at C0
    simp only [hN2, hU] at C2
    have hm : bits .and .i64 N1 8191 = N1 % 8192 := i64_mask 13 b3 (by omega) (by decide) (by decide)
    have hm2 : bits .and .i64 N2 4095 = (n : Int) := (i64_mask 12 b1 (by omega) (by decide) (by decide)).trans hwl
    have hz : (4 : Int) ≤ (s.size : Int) := by omega
    have hzz : (2 : Int) ≤ (s.size : Int) := by omega
    have hz4 : 4 ≤ s.size := by omega
    have hz2 : 2 ≤ s.size := by omega
    have HRZ := Lib.hid hRz
    have HSZ := Lib.hid hsz
    have HRL := Lib.hid hRl
    have HR0 := Lib.hid HR0
    have HR1 := Lib.hid HR1
    clear hN1 hN2 h4 hRz hsz hRl hn
    by_cases hsh : R.size < n
    · have HE := Lib.hid (HR0.out (by have := HRZ.out; have := HSZ.out; omega))
      have hshi : (R.size : Int) < (n : Int) := by omega
      clear hsh
      go_enter Try.func26, Try.ntmps26
      go_wp2
      refine wp_draw (by kernel_rfl)
        [.string s, .int .i64 N1, .int .i64 (N1 % 8192), .string s, .string U, .int .i64 N2, .int .i64 (n : Int), .string s, .string R, .int .i64 (N1 % 8192), .int .i64 (n : Int), .string R]
        (fun _ W => Eqv wA W) rfl (by kernel_rfl) (fin := ?fin) ?hfin (Eqv.drew wA) ?each ?hend
      case hfin => simp [seqA, dstOf, Act.put]; rfl
      case each =>
        refine ⟨?_, ?_, ?_, ?_, ?_, ?_, ?_, ?_, ?_, ?_, ?_, ?_, trivial⟩
        all_goals intro L w5 h0 hd hsh hw
        all_goals unfold Does
        rotate_left 1
        · go_simp
          refine (C0.out w5).mono ?_
          rintro e w6 ⟨rfl, k6⟩
          exact ⟨_, rfl, rfl, fun _ _ => hw.trans k6⟩
        rotate_left 3
        · go_simp
          refine (C2.out w5).mono ?_
          rintro e w6 ⟨rfl, k6⟩
          exact ⟨_, rfl, rfl, fun _ _ => hw.trans k6⟩
        all_goals go_simp
      case hend =>
      intro L w8 hL hw
      have A8 := Lib.hid (A0.out.eqv hw)
      clear hw hL
      go_wp2_with (refine wpList_store_mid rfl 73 _ _ rfl b 0 #[.int .i64 0, .string ⟨#[]⟩] rfl rfl (A8.out.z.there (o := 0) (n := 2) (show 0 + 2 ≤ 2 by decide)) (by kernel_rfl) (one_pc _ _) ?_)
      have E := A8.out.ends [.int .i64 0, .string ⟨#[]⟩] rfl
      exact cs_ret3 Try.results26 (lvPc E.z) rfl rfl rfl rfl (TpPost.of HE.out E.k)
    · obtain ⟨P, hP⟩ : ∃ P, R.extract 0 n = P := ⟨_, rfl⟩
      obtain ⟨V, hV⟩ : ∃ V, R.extract n R.size = V := ⟨_, rfl⟩
      have HE := Lib.hid (show tpR (ls s) = ((N1 % 8192, P), V, 0) by
        rw [HR1.out (by have := HRZ.out; have := HSZ.out; omega), ← hP, ← hV, ps_upto, ps_from, HRL.out, List.drop_drop])
      have HCL := Lib.hid (fun W => clone_any P W (by rw [← hP, ByteArray.size_extract]; have := HRZ.out; omega))
      have hshi : ¬ (R.size : Int) < (n : Int) := by omega
      have hnR : (n : Int) ≤ (R.size : Int) := by omega
      have hnN : n ≤ R.size := by omega
      clear hsh
      go_enter Try.func26, Try.ntmps26
      go_wp2
      refine wp_draw (by kernel_rfl)
        [.string s, .int .i64 N1, .int .i64 (N1 % 8192), .string s, .string U, .int .i64 N2, .int .i64 (n : Int), .string s, .string R, .int .i64 (N1 % 8192), .int .i64 (n : Int), .string R]
        (fun _ W => Eqv wA W) rfl (by kernel_rfl) (fin := ?fin1) ?hfin1 (Eqv.drew wA) ?each1 ?hend1
      case hfin1 => simp [seqA, dstOf, Act.put]; rfl
      case each1 =>
        refine ⟨?_, ?_, ?_, ?_, ?_, ?_, ?_, ?_, ?_, ?_, ?_, ?_, trivial⟩
        all_goals intro L w5 h0 hd hsh hw
        all_goals unfold Does
        rotate_left 1
        · go_simp
          refine (C0.out w5).mono ?_
          rintro e w6 ⟨rfl, k6⟩
          exact ⟨_, rfl, rfl, fun _ _ => hw.trans k6⟩
        rotate_left 3
        · go_simp
          refine (C2.out w5).mono ?_
          rintro e w6 ⟨rfl, k6⟩
          exact ⟨_, rfl, rfl, fun _ _ => hw.trans k6⟩
        all_goals go_simp
      case hend1 =>
      intro L w8 hL hw
      have A8 := Lib.hid (A0.out.eqv hw)
      clear hw hL
      go_wp2
      refine wp_draw_tail 10 (by kernel_rfl)
        [.int .i64 (N1 % 8192), .string R, .int .i64 (n : Int), .string P, .string P, .agg #[.int .i64 (N1 % 8192), .string P], .string R, .int .i64 (n : Int), .string V]
        (Once 9 (Keeps w8) (CsAns w b [.int .i64 (N1 % 8192), .string P])) rfl (by kernel_rfl) (by kernel_rfl) (fin := ?fin2) ?hfin2 (Once.start ((Keeps.refl w8).eqv (Eqv.drew w8))) ?each2 ?hend2
      case hfin2 => simp [seqA, dstOf, Act.put]; rfl
      case each2 =>
        refine ⟨?_, ?_, ?_, ?_, ?_, ?_, ?_, ?_, ?_, ?_, trivial⟩
        all_goals intro L w5 h0 hd hsh hw
        all_goals unfold Does
        rotate_left 4
        · go_simp
          refine (HCL.out w5).mono ?_
          rintro e w6 ⟨rfl, k6⟩
          exact ⟨_, rfl, rfl, fun _ k => hw.keep (by decide) k (fun h => h.trans k6) (fun h => h.keeps k6)⟩
        rotate_left 4
        · have A5 := A8.out.keeps (hw.1 h0)
          have f0 := A5.z.fz 0 (show 0 < 2 by decide)
          have f1 := A5.z.fz 1 (show 1 < 2 by decide)
          have e0 := A5.z.cell 0 rfl
          have e1 := A5.z.cell 1 rfl
          have E : CsAns w b [.int .i64 (N1 % 8192), .string P] ((w5.setCell ⟨b, 0, none⟩ (.int .i64 (N1 % 8192))).setCell ⟨b, 1, none⟩ (.string P)) := (A5.set 0 (show 0 < 2 by decide) (.int .i64 (N1 % 8192))).set 1 (show 1 < 2 by decide) (.string P)
          go_simp
          exact fun L' k => Once.done k E
        all_goals (go_simp; exact fun L' k => hw.same (by decide) k)
      case hend2 =>
      intro L w9 hL hw
      have E := Lib.hid (hw.2 (hL 9 (by decide)))
      simp only [List.drop_succ_cons, List.drop_zero]
      clear hw hL
      go_wp2
      exact cs_ret3 Try.results26 (lvPc E.out.z) rfl rfl rfl rfl (TpPost.of HE.out E.out.k)
end Go.Proofs.Ytebfihghfkcicaa
