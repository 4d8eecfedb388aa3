/-
  Which Pat, and which Pmt, a section tells (package psi's readPat and readPmt). The memory that was there stays.
-/
import Derived.Test.YtebfihghfkcicaaPsH
namespace Go.Proofs.Ytebfihghfkcicaa
open Go.RowKit Gf Ps Sct
set_option maxRecDepth 100000
/-- A row of the call's own, told by its places. -/
theorem OwnE.is3 {α : Type} {T : RowT α} {w : World} {base : Nat} {a : Option Addr} {n c : Nat} {l : List α} (h : OwnE T w base (.slice a n c) l) : n = l.length ∧ IsE T w a n l ∧ n ≤ c ∧ c ≤ maxLen := by
  obtain ⟨a', c', e, hi, hc⟩ := h.is
  simp only [Value.slice.injEq] at e
  obtain ⟨rfl, rfl, rfl⟩ := e
  refine ⟨rfl, hi, hc, ?_⟩
  obtain ⟨_, h'⟩ := h
  rcases h' with ⟨hv, _⟩ | ⟨g, cap', cur, hv, _, _, _, hm, _⟩
  · simp only [Value.slice.injEq] at hv
    rw [hv.2.2]; exact Nat.zero_le _
  · simp only [Value.slice.injEq] at hv
    rw [hv.2.2]; exact hm
theorem secC_made (w : World) (s : Sec) : CsAt w.heap.size (secC s) (w.alloc (.cells #[.int .i64 s.tb, .bool s.pv, .int .i64 s.ex, .int .i64 s.ver, .bool s.nw, .int .i64 s.num, .int .i64 s.la, .string s.body] 65)) :=
  CsAt.made w #[.int .i64 s.tb, .bool s.pv, .int .i64 s.ex, .int .i64 s.ver, .bool s.nw, .int .i64 s.num, .int .i64 s.la, .string s.body] _ (by simp)
abbrev patC (s v : Int) (a : Option Addr) (n c : Nat) : List Value := [.int .i64 s, .int .i64 v, .slice a n c]
abbrev pmtC (p v k : Int) (i : ByteArray) (a : Option Addr) (n c : Nat) : List Value := [.int .i64 p, .int .i64 v, .int .i64 k, .string i, .slice a n c]
theorem patC_one (s v : Int) (a : Option Addr) (n c : Nat) : ∀ u ∈ patC s v a n c, u.oneCell' = true := by
  intro u hu
  simp only [patC, List.mem_cons, List.not_mem_nil, or_false] at hu
  rcases hu with rfl | rfl | rfl <;> rfl
theorem pmtC_one (p v k : Int) (i : ByteArray) (a : Option Addr) (n c : Nat) : ∀ u ∈ pmtC p v k i a n c, u.oneCell' = true := by
  intro u hu
  simp only [pmtC, List.mem_cons, List.not_mem_nil, or_false] at hu
  rcases hu with rfl | rfl | rfl | rfl | rfl <;> rfl
theorem lvPat {w : World} {b : Nat} {s v : Int} {a : Option Addr} {n c : Nat} (h : CsAt b (patC s v a n c) w) : (loadVar 24 ⟨b, 0, none⟩).run Try.prog w = .ok (.agg #[.int .i64 s, .int .i64 v, .slice a n c]) w :=
  run_loadVar_mid (P := Try.prog) w b 0 _ (patC s v a n c) _ h.r Try.underlying24 rfl (by kernel_rfl)
theorem lvPmt {w : World} {b : Nat} {p v k : Int} {i : ByteArray} {a : Option Addr} {n c : Nat} (h : CsAt b (pmtC p v k i a n c) w) : (loadVar 27 ⟨b, 0, none⟩).run Try.prog w = .ok (.agg #[.int .i64 p, .int .i64 v, .int .i64 k, .string i, .slice a n c]) w :=
  run_loadVar_mid (P := Try.prog) w b 0 _ (pmtC p v k i a n c) _ h.r Try.underlying27 rfl (by kernel_rfl)
theorem wp_stPat {ops : Array Oper} {rest : List Oper} {o : Oper} {u : Act} {w : World} {Q : Exit → Act → World → Prop} {b : Nat} (s v : Int) (a : Option Addr) (n c : Nat) (h : w.there b 0 3) (hgd : o.guard = none) (x y : Operand) (ho : o.op = .store 24 x y)
    (hx : u.eval x = .pointer (some ⟨b, 0, none⟩)) (hy : u.eval y = .agg #[.int .i64 s, .int .i64 v, .slice a n c]) (k : wpList Try.prog ops Q rest (u.put o.dst undef) (w.setCells b 0 (patC s v a n c))) : wpList Try.prog ops Q (o :: rest) u w :=
  wpList_store_mid hgd _ x y ho b 0 (patC s v a n c).toArray hx hy h (by kernel_rfl) (all_oneCell_toArray (patC_one s v a n c)) k
theorem wp_stPmt {ops : Array Oper} {rest : List Oper} {o : Oper} {u : Act} {w : World} {Q : Exit → Act → World → Prop} {b : Nat} (p v l : Int) (i : ByteArray) (a : Option Addr) (n c : Nat) (h : w.there b 0 5) (hgd : o.guard = none) (x y : Operand) (ho : o.op = .store 27 x y)
    (hx : u.eval x = .pointer (some ⟨b, 0, none⟩)) (hy : u.eval y = .agg #[.int .i64 p, .int .i64 v, .int .i64 l, .string i, .slice a n c]) (k : wpList Try.prog ops Q rest (u.put o.dst undef) (w.setCells b 0 (pmtC p v l i a n c))) : wpList Try.prog ops Q (o :: rest) u w :=
  wpList_store_mid hgd _ x y ho b 0 (pmtC p v l i a n c).toArray hx hy h (by kernel_rfl) (all_oneCell_toArray (pmtC_one p v l i a n c)) k
theorem wp_ldPat {ops : Array Oper} {rest : List Oper} {o : Oper} {u : Act} {w : World} {Q : Exit → Act → World → Prop} {b : Nat} {s v : Int} {a : Option Addr} {n c : Nat} (h : CsAt b (patC s v a n c) w) (hgd : o.guard = none) (x : Operand) (ho : o.op = .load 24 x)
    (hx : u.eval x = .pointer (some ⟨b, 0, none⟩)) (k : wpList Try.prog ops Q rest (u.put o.dst (.agg #[.int .i64 s, .int .i64 v, .slice a n c])) w) : wpList Try.prog ops Q (o :: rest) u w :=
  wpList_load_mid hgd _ x ho b 0 hx (patC s v a n c) _ h.r Try.underlying24 rfl (by kernel_rfl) k
theorem wp_ldPmt {ops : Array Oper} {rest : List Oper} {o : Oper} {u : Act} {w : World} {Q : Exit → Act → World → Prop} {b : Nat} {p v l : Int} {i : ByteArray} {a : Option Addr} {n c : Nat} (h : CsAt b (pmtC p v l i a n c) w) (hgd : o.guard = none) (x : Operand) (ho : o.op = .load 27 x)
    (hx : u.eval x = .pointer (some ⟨b, 0, none⟩)) (k : wpList Try.prog ops Q rest (u.put o.dst (.agg #[.int .i64 p, .int .i64 v, .int .i64 l, .string i, .slice a n c])) w) : wpList Try.prog ops Q (o :: rest) u w :=
  wpList_load_mid hgd _ x ho b 0 hx (pmtC p v l i a n c) _ h.r Try.underlying27 rfl (by kernel_rfl) k
/-- What readPat answers. -/
def RpPost (w0 : World) (s : Sec) (e : Ending) (w' : World) : Prop := ∃ (a : Option Addr) (n c : Nat) (r : Int), e = .returned (.tuple #[.agg #[.int .i64 s.ex, .int .i64 s.ver, .slice a n c], .int .i64 r]) ∧ Keeps w0 w' ∧
  ((ls s.body).length % 4 = 0 → r = 0 ∧ n = (rdPr (ls s.body)).length ∧ IsE rowPr w' a n (rdPr (ls s.body)) ∧ n ≤ c ∧ c ≤ maxLen ∧ ∀ x, a = some x → w0.heap.size ≤ x.block) ∧ ((ls s.body).length % 4 ≠ 0 → r = 10)
set_option maxHeartbeats 1600000 in
theorem psreadpat_any (s : Sec) (w : World) (hs : s.body.size ≤ 1000000) : Calls Try.prog 19 #[secV s] w (RpPost w s) := by
  obtain ⟨b, hb⟩ : ∃ b, w.heap.size = b := ⟨_, rfl⟩
  have hbx := secC_made w s
  obtain ⟨wA, hA⟩ : ∃ wA, w.alloc (.cells #[.int .i64 s.tb, .bool s.pv, .int .i64 s.ex, .int .i64 s.ver, .bool s.nw, .int .i64 s.num, .int .i64 s.la, .string s.body] 65) = wA := ⟨_, rfl⟩
  rw [hA, hb] at hbx
  have kA : Keeps w wA := by rw [← hA]; exact (Keeps.refl w).alloc _
  have hzA : wA.heap.size = b + 1 := by rw [← hA, World.size_alloc, hb]
  obtain ⟨wB, hB⟩ : ∃ wB, wA.alloc (.cells #[.int .i64 0, .int .i64 0, .slice none 0 0] 24) = wB := ⟨_, rfl⟩
  have A0 := Lib.hid (CsAns.start kA (a := #[.int .i64 0, .int .i64 0, .slice none 0 0]) (by simp) hzA hB)
  have kB : Keeps wA wB := by rw [← hB]; exact (Keeps.refl wA).alloc _
  have HBX := Lib.hid (hbx.keeps kB)
  have HKB := Lib.hid (kA.trans kB)
  have HTA := Lib.hid (fun W => pstakeall_pr s.body W hs)
  unfold TaPost at HTA
  have q7 := (hbx.keeps kB).cell 7 rfl
  obtain ⟨tb, pv, ex, ver, nw, num, la, S⟩ := s
  simp only at HTA HBX q7 hA
  have HP := Lib.hid (show ∀ (a : Option Addr) (n c : Nat) (r : Int) (W : World), Keeps w W → ((ls S).length % 4 = 0 → r = 0 ∧ n = (rdPr (ls S)).length ∧ IsE rowPr W a n (rdPr (ls S)) ∧ n ≤ c ∧ c ≤ maxLen ∧ ∀ x, a = some x → w.heap.size ≤ x.block) → ((ls S).length % 4 ≠ 0 → r = 10) → RpPost w ⟨tb, pv, ex, ver, nw, num, la, S⟩ (.returned (.tuple #[.agg #[.int .i64 ex, .int .i64 ver, .slice a n c], .int .i64 r])) W from fun a n c r W h1 h2 h3 => ⟨a, n, c, r, rfl, h1, h2, h3⟩)
  have HW := Lib.hid (show b + 2 ≤ wB.heap.size by rw [← hB, World.size_alloc, hzA]; exact Nat.le_refl _)
  have HB0 := Lib.hid hb
  clear hbx kA kB
  go_enter Try.func19, Try.ntmps19
  go_wp2_with fail
  refine (HTA.out _).mono ?_
  rintro _ w2 ⟨v, r, rfl, h1, h2, k2⟩
  have A2 := Lib.hid (A0.out.keeps k2)
  have HK2 := Lib.hid (HKB.out.trans k2)
  have c2 := (HBX.out.keeps k2).cell 2 rfl
  have c3 := (HBX.out.keeps k2).cell 3 rfl
  have hv : ∃ (a : Option Addr) (n c : Nat), v = .slice a n c ∧ ((ls S).length % 4 = 0 → r = 0 ∧ n = (rdPr (ls S)).length ∧ OwnE rowPr w2 wB.heap.size (.slice a n c) (rdPr (ls S))) ∧ ((ls S).length % 4 ≠ 0 → r = 10) := by
    by_cases hm : (ls S).length % 4 = 0
    · obtain ⟨x1, x2⟩ := h1 hm
      obtain ⟨a, c, e, i, j⟩ := x2.is
      subst e
      exact ⟨a, _, c, rfl, fun _ => ⟨x1, rfl, x2⟩, fun x => absurd hm x⟩
    · obtain ⟨x1, x2⟩ := h2 hm
      exact ⟨none, 0, 0, x1, fun x => absurd x hm, fun _ => x2⟩
  obtain ⟨a, n, c, rfl, e1, e2⟩ := hv
  have HE1 := Lib.hid e1
  have HE2 := Lib.hid e2
  clear h1 h2 e1 e2 k2
  go_wp2_with (refine wp_stPat (b := b + 1) ex ver a n c (A2.out.z.there (show 0 + 3 ≤ 3 by decide)) rfl _ _ rfl rfl rfl ?_)
  have E := A2.out.ends (patC ex ver a n c) rfl
  have ko : Only (b + 1) w2 (w2.setCells (b + 1) 0 (patC ex ver a n c)) := only_setCells (b + 1) (patC ex ver a n c) 0 w2
  refine cs_ret2 Try.results19 (lvPat E.z) rfl rfl rfl (HP.out a n c r _ (ko.keeps HK2.out (by rw [HB0.out]; exact Nat.le_succ _)) (fun x => ?_) HE2.out)
  obtain ⟨x1, x2, x3⟩ := HE1.out x
  obtain ⟨y1, y2, y3, y4⟩ := (x3.only ko (fun hg => by have := x3.block _ hg; have := HW.out; omega)).is3
  exact ⟨x1, x2, y2, y3, y4, fun x hx => by subst hx; have h1 : wB.heap.size ≤ x.block := x3.block _ rfl; have := HW.out; have := HB0.out; omega⟩
/-- What readPmt answers. -/
def RmPost (w0 : World) (s : Sec) (e : Ending) (w' : World) : Prop := ∃ (x : Pmt) (a : Option Addr) (n c : Nat) (r : Int), e = .returned (.tuple #[.agg #[.int .i64 x.prog, .int .i64 x.ver, .int .i64 x.clock, .string x.info, .slice a n c], .int .i64 r]) ∧ Keeps w0 w' ∧
  (∀ y, rdPmt s = some y → r = 0 ∧ x = y ∧ n = y.l.length ∧ IsE rowSt w' a n y.l ∧ n ≤ c ∧ c ≤ maxLen ∧ ∀ x, a = some x → w0.heap.size ≤ x.block) ∧ (rdPmt s = none → r ≠ 0)
set_option maxHeartbeats 1600000 in
theorem psreadpmt_any (s : Sec) (w : World) (hs : s.body.size ≤ 1000000) : Calls Try.prog 21 #[secV s] w (RmPost w s) := by
  have hrd0 : tpR (ls s.body) = ((0, ⟨#[]⟩), ⟨#[]⟩, 10) ∧ rdPmt s = none ∨ ¬ (ls s.body).length < 4 ∧ ¬ (ls s.body).length < 4 + wl (ls s.body) 2 ∧ rdPmt s = (rdSt ((ls s.body).length + 1) ((ls s.body).drop (4 + wl (ls s.body) 2))).map fun l => ⟨s.ex, s.ver, w2 (ls s.body) 0 % 8192, st (((ls s.body).drop 4).take (wl (ls s.body) 2)), l⟩ := by
    by_cases h1 : (ls s.body).length < 4
    · exact .inl ⟨tpR_few h1, by unfold rdPmt; rw [if_pos h1]⟩
    · by_cases h2 : (ls s.body).length < 4 + wl (ls s.body) 2
      · exact .inl ⟨tpR_short h1 h2, by unfold rdPmt; rw [if_neg h1]; exact if_pos h2⟩
      · refine .inr ⟨h1, h2, ?_⟩
        unfold rdPmt
        rw [if_neg h1, w2_nat]
        exact if_neg h2
  obtain ⟨b, hb⟩ : ∃ b, w.heap.size = b := ⟨_, rfl⟩
  have hbx := secC_made w s
  obtain ⟨wA, hA⟩ : ∃ wA, w.alloc (.cells #[.int .i64 s.tb, .bool s.pv, .int .i64 s.ex, .int .i64 s.ver, .bool s.nw, .int .i64 s.num, .int .i64 s.la, .string s.body] 65) = wA := ⟨_, rfl⟩
  rw [hA, hb] at hbx
  have kA : Keeps w wA := by rw [← hA]; exact (Keeps.refl w).alloc _
  have hzA : wA.heap.size = b + 1 := by rw [← hA, World.size_alloc, hb]
  obtain ⟨wB, hB⟩ : ∃ wB, wA.alloc (.cells #[.int .i64 0, .int .i64 0, .int .i64 0, .string ⟨#[]⟩, .slice none 0 0] 27) = wB := ⟨_, rfl⟩
  have A0 := Lib.hid (CsAns.start kA (a := #[.int .i64 0, .int .i64 0, .int .i64 0, .string ⟨#[]⟩, .slice none 0 0]) (by simp) hzA hB)
  have kB : Keeps wA wB := by rw [← hB]; exact (Keeps.refl wA).alloc _
  have HBX := Lib.hid (hbx.keeps kB)
  have HKB := Lib.hid (kA.trans kB)
  have HTP := Lib.hid (fun W => pstakepc_any s.body W hs)
  unfold TpPost at HTP
  have q7 := (hbx.keeps kB).cell 7 rfl
  have HW := Lib.hid (show b + 2 ≤ wB.heap.size by rw [← hB, World.size_alloc, hzA]; exact Nat.le_refl _)
  have HB0 := Lib.hid hb
  obtain ⟨R0, hR0⟩ : ∃ R, rdPmt s = R := ⟨_, rfl⟩
  rw [hR0] at hrd0
  have HP := Lib.hid (show ∀ (x : Pmt) (a : Option Addr) (n c : Nat) (r : Int) (W : World), Keeps w W → (∀ y, R0 = some y → r = 0 ∧ x = y ∧ n = y.l.length ∧ IsE rowSt W a n y.l ∧ n ≤ c ∧ c ≤ maxLen ∧ ∀ x, a = some x → w.heap.size ≤ x.block) → (R0 = none → r ≠ 0) → RmPost w s (.returned (.tuple #[.agg #[.int .i64 x.prog, .int .i64 x.ver, .int .i64 x.clock, .string x.info, .slice a n c], .int .i64 r])) W from fun x a n c r W h1 h2 h3 => ⟨x, a, n, c, r, rfl, h1, by rw [hR0]; exact h2, by rw [hR0]; exact h3⟩)
  obtain ⟨E0, hE0⟩ : ∃ E0, RmPost w s = E0 := ⟨_, rfl⟩
  rw [hE0] at HP ⊢
  clear hR0 hE0
  obtain ⟨tb, pv, ex, ver, nw, num, la, S⟩ := s
  simp only at HTP HBX q7 hA hrd0 hs
  clear hbx kA kB
  rcases hrd0 with ⟨h1, rfl⟩ | ⟨h1, h2, h3⟩
  · simp only [h1] at HTP
    clear h1
    go_enter Try.func21, Try.ntmps21
    go_wp2_with (first | (go_at_call 26; refine (HTP.out _).mono ?_; rintro _ w2 ⟨rfl, k2⟩; have A2 := Lib.hid ((A0.out.keeps k2).alloc (.cells #[.int .i64 0, .string ⟨#[]⟩] 73)); clear k2) | (refine wp_stPmt (b := b + 1) 0 0 0 ⟨#[]⟩ none 0 0 (A2.out.z.there (show 0 + 5 ≤ 5 by decide)) rfl _ _ rfl rfl rfl ?_))
    have E := A2.out.ends (pmtC 0 0 0 ⟨#[]⟩ none 0 0) rfl
    first | exact cs_ret2 Try.results21 (lvPmt E.z) rfl rfl rfl (HP.out ⟨0, 0, 0, ⟨#[]⟩, []⟩ none 0 0 10 _ E.k (fun y hy => by cases hy) (fun _ => by decide)) | trace_state
  · simp only [tpR_ok h1 h2] at HTP
    have hf : ((ls S).drop (4 + wl (ls S) 2)).length < (ls S).length + 1 := by rw [List.length_drop]; omega
    have hl : ((ls S).drop (4 + wl (ls S) 2)).length ≤ 1000000 := by rw [List.length_drop, ← ls_size]; omega
    have HTA := Lib.hid (fun W => pstakeall_st (st ((ls S).drop (4 + wl (ls S) 2))) ((ls S).length + 1) W (by rw [st_size]; exact hl) (by rw [st_size]; exact hf))
    unfold TbPost at HTA
    simp only [ls_st] at HTA
    obtain ⟨V, hV⟩ : ∃ V, st ((ls S).drop (4 + wl (ls S) 2)) = V := ⟨_, rfl⟩
    obtain ⟨I, hI⟩ : ∃ I, st (((ls S).drop 4).take (wl (ls S) 2)) = I := ⟨_, rfl⟩
    obtain ⟨N, hN⟩ : ∃ N, w2 (ls S) 0 % 8192 = N := ⟨_, rfl⟩
    obtain ⟨O, hO⟩ : ∃ O, rdSt ((ls S).length + 1) ((ls S).drop (4 + wl (ls S) 2)) = O := ⟨_, rfl⟩
    simp only [hV, hI, hN] at HTP
    simp only [hV, hO] at HTA
    rw [hO, hI, hN] at h3
    have H3 := Lib.hid h3
    clear h1 h2 h3 hf hl hV hI hN hO
    go_enter Try.func21, Try.ntmps21
    go_wp2_with (go_at_call 26; refine (HTP.out _).mono ?_; rintro _ w3 ⟨rfl, k3⟩; have A3 := Lib.hid (A0.out.keeps k3); have HX3 := Lib.hid (HBX.out.keeps k3); have HK3 := Lib.hid (HKB.out.trans k3); have HW3 := Lib.hid (Nat.le_trans HW.out (Below.size k3)); clear k3)
    obtain ⟨bp, hbp⟩ : ∃ bp, w3.heap.size = bp := ⟨_, rfl⟩
    obtain ⟨wC, hC⟩ : ∃ wC, w3.alloc (.cells #[.int .i64 N, .string I] 73) = wC := ⟨_, rfl⟩
    have kC : Keeps w3 wC := by rw [← hC]; exact (Keeps.refl w3).alloc _
    have HPC := Lib.hid (show CsAt bp [.int .i64 N, .string I] wC by rw [← hC, ← hbp]; exact CsAt.made w3 #[.int .i64 N, .string I] _ (by simp))
    have HWC := Lib.hid (Nat.le_trans HW3.out (Below.size kC))
    have AC := Lib.hid (A3.out.keeps kC)
    have HXC := Lib.hid (HX3.out.keeps kC)
    have HKC := Lib.hid (HK3.out.trans kC)
    rw [hC, hbp]
    clear hC kC
    refine (HTA.out _).mono ?_
    rintro _ w4 ⟨v, r, rfl, h1, h2, k4⟩
    have A4 := Lib.hid (AC.out.keeps k4)
    have HK4 := Lib.hid (HKC.out.trans k4)
    have c2 := (HXC.out.keeps k4).cell 2 rfl
    have c3 := (HXC.out.keeps k4).cell 3 rfl
    have d0 := (HPC.out.keeps k4).cell 0 rfl
    have d1 := (HPC.out.keeps k4).cell 1 rfl
    have hv : ∃ (a : Option Addr) (n c : Nat), v = .slice a n c ∧ (∀ x, O = some x → r = 0 ∧ OwnE rowSt w4 wC.heap.size (.slice a n c) x) ∧ (O = none → r = 10) := by
      cases O with
      | some x =>
        obtain ⟨x1, x2⟩ := h1 x rfl
        obtain ⟨a, c, e, i, j⟩ := x2.is
        subst e
        exact ⟨a, _, c, rfl, fun y hy => by cases hy; exact ⟨x1, x2⟩, fun x => by cases x⟩
      | none =>
        obtain ⟨x1, x2⟩ := h2 rfl
        exact ⟨none, 0, 0, x1, fun y hy => (by cases hy), fun _ => x2⟩
    obtain ⟨a, n, c, rfl, e1, e2⟩ := hv
    have HE1 := Lib.hid e1
    have HE2 := Lib.hid e2
    clear h1 h2 e1 e2 k4
    go_wp2_with (refine wp_stPmt (b := b + 1) ex ver N I a n c (A4.out.z.there (show 0 + 5 ≤ 5 by decide)) rfl _ _ rfl rfl rfl ?_)
    have E := A4.out.ends (pmtC ex ver N I a n c) rfl
    have ko : Only (b + 1) w4 (w4.setCells (b + 1) 0 (pmtC ex ver N I a n c)) := only_setCells (b + 1) (pmtC ex ver N I a n c) 0 w4
    refine cs_ret2 Try.results21 (lvPmt E.z) rfl rfl rfl (HP.out ⟨ex, ver, N, I, O.getD []⟩ a n c r _ (ko.keeps HK4.out (by rw [HB0.out]; exact Nat.le_succ _)) (fun y hy => ?_) (fun hn => ?_))
    · rw [H3.out] at hy
      obtain ⟨x, hx, rfl⟩ := Option.map_eq_some_iff.1 hy
      obtain ⟨x1, x3⟩ := HE1.out x hx
      obtain ⟨y1, y2, y3, y4⟩ := (x3.only ko (fun hg => by have := x3.block _ hg; have := HWC.out; omega)).is3
      exact ⟨x1, by rw [hx]; rfl, y1, y2, y3, y4, fun q hq => by subst hq; have h1 : wC.heap.size ≤ q.block := x3.block _ rfl; have := HWC.out; have := HB0.out; omega⟩
    · rw [H3.out] at hn
      rw [HE2.out (Option.map_eq_none_iff.1 hn)]; decide
end Go.Proofs.Ytebfihghfkcicaa
