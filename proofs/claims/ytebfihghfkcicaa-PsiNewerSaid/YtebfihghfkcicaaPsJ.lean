/-
  Which Pat, and which Pmt, bytes are, or why none (package psi's decode, a generic function that is handed a function). The memory that was there stays.
-/
import Derived.Test.YtebfihghfkcicaaPsI
namespace Go.Proofs.Ytebfihghfkcicaa
open Go.RowKit Gf Ps Sct
set_option maxRecDepth 100000
theorem ldPatI {w : World} {b : Nat} {s v : Int} {a : Option Addr} {n c : Nat} (h : CsAt b (patC s v a n c) w) : (Instr.loadAt 24 (.pointer (some ⟨b, 0, none⟩))).run Try.prog w = .ok (.agg #[.int .i64 s, .int .i64 v, .slice a n c]) w :=
  run_loadAt_mid (P := Try.prog) w b 0 _ (patC s v a n c) _ h.r Try.underlying24 rfl (by kernel_rfl)
theorem ldPmtI {w : World} {b : Nat} {p v k : Int} {i : ByteArray} {a : Option Addr} {n c : Nat} (h : CsAt b (pmtC p v k i a n c) w) : (Instr.loadAt 27 (.pointer (some ⟨b, 0, none⟩))).run Try.prog w = .ok (.agg #[.int .i64 p, .int .i64 v, .int .i64 k, .string i, .slice a n c]) w :=
  run_loadAt_mid (P := Try.prog) w b 0 _ (pmtC p v k i a n c) _ h.r Try.underlying27 rfl (by kernel_rfl)
theorem ldSecI {w : World} {b : Nat} {s : Sec} (h : CsAt b (secC s) w) : (Instr.loadAt 65 (.pointer (some ⟨b, 0, none⟩))).run Try.prog w = .ok (secV s) w :=
  run_loadAt_mid (P := Try.prog) w b 0 _ (secC s) _ h.r Try.underlying65 rfl (by kernel_rfl)
theorem wp_ldSec {ops : Array Oper} {rest : List Oper} {o : Oper} {u : Act} {w : World} {Q : Exit → Act → World → Prop} {b : Nat} {s : Sec} (h : CsAt b (secC s) w) (hgd : o.guard = none) (x : Operand) (ho : o.op = .load 65 x)
    (hx : u.eval x = .pointer (some ⟨b, 0, none⟩)) (k : wpList Try.prog ops Q rest (u.put o.dst (secV s)) w) : wpList Try.prog ops Q (o :: rest) u w :=
  wpList_load_mid hgd _ x ho b 0 hx (secC s) _ h.r Try.underlying65 rfl (by kernel_rfl) k
/-- Two structs are compared, as is told ahead. -/
theorem does_cmp {o : Oper} {ρ : Operand → Value} {w : World} {R : Value → World → Prop} {op : BinOp} {T U : TypeId} {xs ys : Array Value} {r : Bool} (hrun : (binOp op T (.agg xs) (.agg ys)).run Try.prog w = .ok (.bool r) w)
    (hm : Try.prog.eqGuardType Try.prog.depth T = false) (x y : Operand) (ho : o.op = .binOp op T x y U) (hx : ρ x = .agg xs) (hy : ρ y = .agg ys) (k : R (.bool r) w) : Does Try.prog o ρ w R := by
  have e : (execOp ρ o).run Try.prog w = .ok (.value (.bool r)) w := by
    unfold execOp
    simp only [ho, hx, hy, Sem.run_bind, run_eqGuard_agg w op T x y xs ys hm, hrun, Result.andThen_ok]
    rfl
  unfold Does
  rw [e]
  exact k
theorem rdSt_few5 : ∀ (f : Nat) (b : List UInt8) {l : List Strm}, rdSt f b = some l → 5 * l.length ≤ b.length
  | 0, _, _, h => by cases h
  | f + 1, b, l, h => by
    by_cases h0 : b = []
    · subst h0; rw [rdSt_nil] at h; cases h; exact Nat.le_refl _
    by_cases h1 : b.length < 5
    · rw [rdSt_few h0 h1] at h; cases h
    by_cases h2 : b.length < 5 + ((cf b 3).toNat * 256 + (cf b 4).toNat) % 4096
    · rw [rdSt_short h1 h2] at h; cases h
    rw [rdSt_go h1 h2] at h
    obtain ⟨l', hl, rfl⟩ := Option.map_eq_some_iff.1 h
    have := rdSt_few5 f _ hl
    rw [List.length_drop] at this
    rw [List.length_cons]; omega
theorem rdPmt_few {s : Sec} {x : Pmt} (h : rdPmt s = some x) (hs : s.body.size ≤ 1012) : x.l.length ≤ 1000 ∧ (∀ p ∈ x.l, p.info.size ≤ 5000) ∧ x.info.size ≤ 5000 := by
  unfold rdPmt at h
  rw [ls_size] at hs
  split at h
  · cases h
  · split at h
    · cases h
    · obtain ⟨l, hl, rfl⟩ := Option.map_eq_some_iff.1 h
      have h1 := rdSt_few5 _ _ hl
      rw [List.length_drop] at h1
      refine ⟨by show l.length ≤ 1000; omega, fun p hp => by have := (rdSt_ok _ _ hl p hp).2.2; omega, ?_⟩
      show (st _).size ≤ 5000
      rw [st_size, List.length_take]; omega
/-- What decode of a Pat answers. -/
def patDP (w0 : World) (l : List UInt8) (e : Ending) (w' : World) : Prop := ∃ (x : Pat) (a : Option Addr) (c : Nat) (r : Int), e = .returned (.tuple #[patV x a c, .int .i64 r]) ∧ Keeps w0 w' ∧ IsE rowPr w' a x.l.length x.l ∧ x.l.length ≤ c ∧ c ≤ maxLen ∧ (∀ p, a = some p → w0.heap.size ≤ p.block) ∧
  ((r = 0 ∧ PatOk x ∧ patE x = l) ∨ (r ≠ 0 ∧ x = ⟨0, 0, []⟩ ∧ (∀ z, PatOk z → patE z ≠ l) ∧ ((dec l).2 = 0 → (dec l).1.tb ≠ 0 → r = 14)))
theorem patDP.no {w0 W : World} {l : List UInt8} {r : Int} (k : Keeps w0 W) (hr : r ≠ 0) (hz : ∀ z, PatOk z → patE z ≠ l) (h4 : (dec l).2 = 0 → (dec l).1.tb ≠ 0 → r = 14) : patDP w0 l (.returned (.tuple #[.agg #[.int .i64 0, .int .i64 0, .slice none 0 0], .int .i64 r])) W :=
  ⟨⟨0, 0, []⟩, none, 0, r, rfl, k, IsE.nil _ _, Nat.le_refl _, Nat.zero_le _, (fun p hp => by cases hp), .inr ⟨hr, rfl, hz, h4⟩⟩
set_option maxHeartbeats 3200000 in
theorem psdecpat_any (t : ByteArray) (w : World) (ht : t.size ≤ 1000000) : Calls Try.prog 18 #[.string t, .int .i64 0, .func (.func 19) #[] #[]] w (patDP w (ls t)) := by
  obtain ⟨b, hb⟩ : ∃ b, w.heap.size = b := ⟨_, rfl⟩
  obtain ⟨wA, hA⟩ : ∃ wA, w.alloc (.cells #[.int .i64 0, .int .i64 0, .slice none 0 0] 24) = wA := ⟨_, rfl⟩
  have hr0 := CsAns.start (Keeps.refl w) (a := #[.int .i64 0, .int .i64 0, .slice none 0 0]) (by simp) hb hA
  have hzA : wA.heap.size = b + 1 := by rw [← hA, World.size_alloc, hb]
  obtain ⟨wB, hB⟩ : ∃ wB, wA.alloc (.cells #[.int .i64 0, .int .i64 0, .slice none 0 0] 24) = wB := ⟨_, rfl⟩
  have kB : Keeps wA wB := by rw [← hB]; exact (Keeps.refl wA).alloc _
  have HRS := Lib.hid (hr0.keeps kB)
  have HNO := Lib.hid (CsAns.start hr0.k (a := #[.int .i64 0, .int .i64 0, .slice none 0 0]) (by simp) hzA hB)
  have hsz := ls_size t
  have hdc := scdec_any wB t wB ht (Keeps.refl wB)
  unfold RdPost at hdc
  obtain ⟨⟨S, e⟩, hS⟩ : ∃ q, dec (ls t) = q := ⟨_, rfl⟩
  rw [hS] at hdc
  have hbd : e = 0 → (ls t).length = S.body.size + 12 := fun h0 => by
    have h1 := bytes_dec (l := ls t) (by rw [hS]; exact h0)
    rw [hS] at h1
    rw [← h1.2, bytes_length]
  have HNOZ := Lib.hid (show ∀ z, PatOk z → patE z = ls t → e = 0 ∧ S = patS z from fun z hz hz2 => by
    have h1 := patE_dec hz
    rw [hz2, hS] at h1
    exact ⟨(Prod.mk.inj h1).2, (Prod.mk.inj h1).1⟩)
  obtain ⟨G, hG⟩ : ∃ G : Int → Prop, (fun r => r ≠ 0 ∧ (∀ z, PatOk z → patE z ≠ ls t) ∧ (e = 0 → S.tb ≠ 0 → r = 14)) = G := ⟨_, rfl⟩
  have HG := Lib.hid (show ∀ r : Int, (r ≠ 0 ∧ (∀ z, PatOk z → patE z ≠ ls t) ∧ (e = 0 → S.tb ≠ 0 → r = 14)) → G r from fun r h => by rw [← hG]; exact h)
  have HP := Lib.hid (show ∀ (r : Int) (W : World), Keeps w W → G r → patDP w (ls t) (.returned (.tuple #[.agg #[.int .i64 0, .int .i64 0, .slice none 0 0], .int .i64 r])) W from fun r W k h => by
    rw [← hG] at h
    exact patDP.no k h.1 h.2.1 (by rw [hS]; exact h.2.2))
  clear hG
  have HDC := Lib.hid hdc
  have HOKP := Lib.hid (show ∀ (x : Pat) (a : Option Addr) (c : Nat) (W : World), Keeps w W → IsE rowPr W a x.l.length x.l → x.l.length ≤ c → c ≤ maxLen → (∀ p, a = some p → w.heap.size ≤ p.block) → PatOk x → patS x = S → e = 0 → patDP w (ls t) (.returned (.tuple #[patV x a c, .int .i64 0])) W from fun x a c W k h1 h2 h3 hp h4 h5 h6 => ⟨x, a, c, 0, rfl, k, h1, h2, h3, hp, .inl ⟨rfl, h4, pat_was (by rw [hS, h6]) h5⟩⟩)
  obtain ⟨E0, hE0⟩ : ∃ E0, patDP w (ls t) = E0 := ⟨_, rfl⟩
  rw [hE0] at HP HOKP ⊢
  have HS0 := Lib.hid (show e = 0 → dec (ls t) = (S, 0) from fun h => by rw [hS, h])
  clear hr0 kB hS hE0 hdc
  by_cases he : e = 0
  · subst he
    have HSD := Lib.hid (HS0.out rfl)
    have hbz := hbd rfl
    rw [← hsz] at hbz
    clear hbd
    have HTB := Lib.hid (show ∀ z, PatOk z → patE z = ls t → S = patS z from fun z h1 h2 => (HNOZ.out z h1 h2).2)
    have HIS := Lib.hid (show ∀ z, PatOk z → patE z = ls t → z = ⟨S.ex, S.ver, rdPr (ls S.body)⟩ from fun z h1 h2 => (pat_is HSD.out h1 h2).2)
    clear HNOZ HS0 HSD
    by_cases htb : S.tb = 0
    · by_cases hbig : 1024 < t.size
      · have HE := Lib.hid (show G 17 from HG.out _ ⟨by decide, fun z h1 h2 => by
          have h3 := patE_length z
          rw [h2, ← hsz] at h3
          have h4 := h1.2.2.2.2
          omega, fun _ h => absurd htb h⟩)
        have hbi : (1024 : Int) < (t.size : Int) := by omega
        obtain ⟨tb, pv, ex, ver, nw, num, la, B⟩ := S
        simp only at htb
        subst htb
        clear hbz hbig hsz HTB HIS HOKP HG
        go_enter Try.func18, Try.ntmps18
        go_wp2_with (first | (go_at_call 23; refine HDC.out.mono ?_; rintro _ w2 ⟨rfl, k2⟩; have HN2 := Lib.hid (HNO.out.keeps (Keeps.alloc k2 (.cells #[.int .i64 0, .bool pv, .int .i64 ex, .int .i64 ver, .bool nw, .int .i64 num, .int .i64 la, .string B] 65))); have HR2 := Lib.hid (HRS.out.keeps (Keeps.alloc k2 (.cells #[.int .i64 0, .bool pv, .int .i64 ex, .int .i64 ver, .bool nw, .int .i64 num, .int .i64 la, .string B] 65))); clear k2) | (refine wp_ldPat (b := b + 1) HN2.out.z rfl _ rfl rfl ?_) | (refine wp_stPat (b := b) 0 0 none 0 0 (HR2.out.z.there (show 0 + 3 ≤ 3 by decide)) rfl _ _ rfl rfl rfl ?_))
        have E := HR2.out.ends (patC 0 0 none 0 0) rfl
        exact cs_ret2 Try.results18 (lvPat E.z) rfl rfl rfl (HP.out 17 _ E.k HE.out)
      · have hbi : ¬ (1024 : Int) < (t.size : Int) := by omega
        have hBs : S.body.size ≤ 1012 := by omega
        have HRP := Lib.hid (fun W => psreadpat_any S W (by omega))
        unfold RpPost at HRP
        have HKZ := Lib.hid (show S.body.size ≤ 1012 from hBs)
        obtain ⟨tb, pv, ex, ver, nw, num, la, B⟩ := S
        simp only at htb
        subst htb
        simp only at HRP HIS
        clear hbz hbig hsz hBs
        by_cases hm : (ls B).length % 4 ≠ 0
        · have HE := Lib.hid (show G 10 from HG.out _ ⟨by decide, fun z h1 h2 => hm (by
            have h3 := congrArg Sec.body (HTB.out z h1 h2)
            show (ls B).length % 4 = 0
            rw [show B = st (patB z.l) from h3, ls_st, patB_length]; omega), fun _ h => absurd rfl h⟩)
          clear HTB HIS HOKP HG
          have HMM := Lib.hid hm
          go_enter Try.func18, Try.ntmps18
          go_wp2_with (first | (go_at_call 23; refine HDC.out.mono ?_; rintro _ w2 ⟨rfl, k2⟩; have HN2 := Lib.hid (HNO.out.keeps (Keeps.alloc k2 (.cells #[.int .i64 0, .bool pv, .int .i64 ex, .int .i64 ver, .bool nw, .int .i64 num, .int .i64 la, .string B] 65))); have HR2 := Lib.hid (HRS.out.keeps (Keeps.alloc k2 (.cells #[.int .i64 0, .bool pv, .int .i64 ex, .int .i64 ver, .bool nw, .int .i64 num, .int .i64 la, .string B] 65))); have HS2 := Lib.hid (secC_made w2 ⟨0, pv, ex, ver, nw, num, la, B⟩); clear k2) | (go_at_call 19; refine (HRP.out _).mono ?_; rintro _ w3 ⟨a, n, c, r, rfl, k3, y1, y2⟩; have hr := y2 HMM.out; subst hr; have HN3 := Lib.hid ((HN2.out.keeps k3).alloc (.cells #[.int .i64 ex, .int .i64 ver, .slice a n c] 24)); have HR3 := Lib.hid ((HR2.out.keeps k3).alloc (.cells #[.int .i64 ex, .int .i64 ver, .slice a n c] 24)); clear k3 y1 y2) | (refine wp_ldSec (b := w2.heap.size) HS2.out rfl _ rfl rfl ?_) | (refine wp_ldPat (b := b + 1) HN3.out.z rfl _ rfl rfl ?_) | (refine wp_stPat (b := b) 0 0 none 0 0 (HR3.out.z.there (show 0 + 3 ≤ 3 by decide)) rfl _ _ rfl rfl rfl ?_))
          have E := HR3.out.ends (patC 0 0 none 0 0) rfl
          exact cs_ret2 Try.results18 (lvPat E.z) rfl rfl rfl (HP.out 10 _ E.k HE.out)
        · have hm0 : (ls B).length % 4 = 0 := by omega
          obtain ⟨L, hL⟩ : ∃ L, rdPr (ls B) = L := ⟨_, rfl⟩
          have hLb : L.length ≤ 253 := by have h1 := HKZ.out; have h2 : B.size ≤ 1012 := h1; rw [← hL, rdPr_len, ← ls_size]; omega
          rw [hL] at HIS
          simp only [hL] at HRP
          have HLB := Lib.hid hLb
          clear hL hLb
          obtain ⟨K, hK⟩ : ∃ K, patK (⟨ex, ver, L⟩ : Pat) = K := ⟨_, rfl⟩
          have HKK := Lib.hid hK
          have HCK := Lib.hid (fun (W : World) (a : Option Addr) (c : Nat) (h : IsE rowPr W a L.length L) => show Calls Try.prog 75 #[.agg #[.int .i64 ex, .int .i64 ver, .slice a L.length c]] W fun e w' => e = .returned (.int .i64 K) ∧ Keeps W w' from by rw [← HKK.out]; exact patchk_any (x := ⟨ex, ver, L⟩) (cap := c) W h (by have := HLB.out; show L.length ≤ 1000; omega))
          have m1 := metPatC
          have m2 := metPatS
          clear hK
          have HM0 := Lib.hid hm0
          clear hm hm0
          by_cases hk : K = 0
          · subst hk
            have hok : PatOk (⟨ex, ver, L⟩ : Pat) := (patK_ok _).1 HKK.out
            have HCA := Lib.hid (fun (W : World) (a : Option Addr) (c : Nat) (h : IsE rowPr W a L.length L) => show Calls Try.prog 74 #[.agg #[.int .i64 ex, .int .i64 ver, .slice a L.length c]] W fun e w' => e = .returned (secV (patS ⟨ex, ver, L⟩)) ∧ Keeps W w' from patcar_any (x := ⟨ex, ver, L⟩) (cap := c) W h (by have := HLB.out; show L.length ≤ 1000; omega) hok.2.2.1)
            have HOK := Lib.hid (show ∀ (a : Option Addr) (c : Nat) (W : World), Keeps w W → IsE rowPr W a L.length L → L.length ≤ c → c ≤ maxLen → (∀ p, a = some p → w.heap.size ≤ p.block) → patS ⟨ex, ver, L⟩ = ⟨0, pv, ex, ver, nw, num, la, B⟩ → E0 (.returned (.tuple #[.agg #[.int .i64 ex, .int .i64 ver, .slice a L.length c], .int .i64 0])) W from fun a c W k1 h1 h2 h3 hp h4 => HOKP.out ⟨ex, ver, L⟩ a c W k1 h1 h2 h3 hp hok h4 rfl)
            obtain ⟨C, hC⟩ : ∃ C, patS (⟨ex, ver, L⟩ : Pat) = C := ⟨_, rfl⟩
            rw [hC] at HCA HOK
            have hne : ∀ W, (binOp .neq 65 (secV C) (secV ⟨0, pv, ex, ver, nw, num, la, B⟩)).run Try.prog W = .ok (.bool (!sameB C ⟨0, pv, ex, ver, nw, num, la, B⟩)) W := fun W => neS C ⟨0, pv, ex, ver, nw, num, la, B⟩ W
            have hge := egS
            by_cases hcs : C = ⟨0, pv, ex, ver, nw, num, la, B⟩
            · have hsb : (!sameB C ⟨0, pv, ex, ver, nw, num, la, B⟩) = false := by rw [sameB_iff.2 hcs]; rfl
              simp only [hsb] at hne
              have HO2 := Lib.hid (fun a c W k h1 h2 h3 hp => HOK.out a c W k h1 h2 h3 hp hcs)
              clear hcs hC HTB HIS HOKP HOK HG HP hok
              have HNE := Lib.hid hne
              have HGE := Lib.hid hge
              clear hne hge hsb
              go_enter Try.func18, Try.ntmps18
              go_wp2_with (first | (go_at_call 23; refine HDC.out.mono ?_; rintro _ w2 ⟨rfl, k2⟩; have HN2 := Lib.hid (HNO.out.keeps (Keeps.alloc k2 (.cells #[.int .i64 0, .bool pv, .int .i64 ex, .int .i64 ver, .bool nw, .int .i64 num, .int .i64 la, .string B] 65))); have HR2 := Lib.hid (HRS.out.keeps (Keeps.alloc k2 (.cells #[.int .i64 0, .bool pv, .int .i64 ex, .int .i64 ver, .bool nw, .int .i64 num, .int .i64 la, .string B] 65))); have HS2 := Lib.hid (secC_made w2 ⟨0, pv, ex, ver, nw, num, la, B⟩); clear k2) | (go_at_call 19; refine (HRP.out _).mono ?_; rintro _ w3 ⟨a, n, c, r, rfl, k3, y1, y2⟩; obtain ⟨hr, hn, hi, hc1, hc2, hap⟩ := y1 HM0.out; subst hr hn; have HI3 := Lib.hid hi; have HC3 := Lib.hid (And.intro hc1 hc2); have HAP := Lib.hid hap; have HN3 := Lib.hid (HN2.out.keeps k3); have HR3 := Lib.hid (HR2.out.keeps k3); have HS3 := Lib.hid (HS2.out.keeps k3); clear k3 y1 y2 hi hc1 hc2 hap) | (refine wp_ldSec (b := w2.heap.size) HS2.out rfl _ rfl rfl ?_))
              obtain ⟨bx, hbx⟩ : ∃ bx, w3.heap.size = bx := ⟨_, rfl⟩
              obtain ⟨bs, hbs⟩ : ∃ bs, w2.heap.size = bs := ⟨_, rfl⟩
              have HBS := Lib.hid hbs
              obtain ⟨wD, hD⟩ : ∃ wD, w3.alloc (.cells #[.int .i64 ex, .int .i64 ver, .slice a L.length c] 24) = wD := ⟨_, rfl⟩
              have HXD := Lib.hid (show CsAt bx (patC ex ver a L.length c) wD by rw [← hD, ← hbx]; exact CsAt.made w3 #[.int .i64 ex, .int .i64 ver, .slice a L.length c] _ (by simp))
              have HKD := Lib.hid (show Keeps w3 wD by rw [← hD]; exact (Keeps.refl w3).alloc _)
              have HSD := Lib.hid (show CsAt bs (secC ⟨0, pv, ex, ver, nw, num, la, B⟩) wD by rw [← hbs]; exact HS3.out.keeps HKD.out)
              have HCD := Lib.hid (fun W (k : Keeps wD W) => HCK.out W a c (((HI3.out : IsE rowPr w3 a L.length L).keeps HKD.out).keeps k))
              rw [hD, hbx, hbs]
              clear hD
              have HCC := Lib.hid (fun W (k : Keeps wD W) => HCA.out W a c (((HI3.out : IsE rowPr w3 a L.length L).keeps HKD.out).keeps k))
              refine wp_draw (by kernel_rfl) [.agg #[.int .i64 ex, .int .i64 ver, .slice a L.length c], .iface 24 (.agg #[.int .i64 ex, .int .i64 ver, .slice a L.length c]), .int .i64 0, .bool false, .bool false, .agg #[.int .i64 ex, .int .i64 ver, .slice a L.length c], .iface 24 (.agg #[.int .i64 ex, .int .i64 ver, .slice a L.length c]), secV C, secV ⟨0, pv, ex, ver, nw, num, la, B⟩, .bool false, .bool false] (fun _ W => Keeps wD W) rfl (by kernel_rfl) (fin := ?fin1) ?hfin1 ((Keeps.refl wD).eqv (Eqv.drew wD)) ?each1 ?hend1
              case hfin1 => simp [seqA, dstOf, Act.put]; rfl
              case each1 =>
                refine ⟨?_, ?_, ?_, ?_, ?_, ?_, ?_, ?_, ?_, ?_, ?_, trivial⟩
                all_goals intro L9 w5 h0 hd hsh hw
                all_goals have e0 := (HXD.out.keeps hw).cell 0 rfl
                all_goals have e1 := (HXD.out.keeps hw).cell 1 rfl
                all_goals have e2 := (HXD.out.keeps hw).cell 2 rfl
                all_goals have s0 := (HSD.out.keeps hw).cell 0 rfl
                all_goals have s1 := (HSD.out.keeps hw).cell 1 rfl
                all_goals have s2 := (HSD.out.keeps hw).cell 2 rfl
                all_goals have s3 := (HSD.out.keeps hw).cell 3 rfl
                all_goals have s4 := (HSD.out.keeps hw).cell 4 rfl
                all_goals have s5 := (HSD.out.keeps hw).cell 5 rfl
                all_goals have s6 := (HSD.out.keeps hw).cell 6 rfl
                all_goals have s7 := (HSD.out.keeps hw).cell 7 rfl
                rotate_left 2
                · unfold Does
                  go_simp
                  refine (HCD.out w5 hw).mono ?_
                  rintro e w6 ⟨rfl, k6⟩
                  exact ⟨_, rfl, rfl, fun _ _ => hw.trans k6⟩
                rotate_left 4
                · split
                  · unfold Does
                    go_simp
                    refine (HCC.out w5 hw).mono ?_
                    rintro e w6 ⟨rfl, k6⟩
                    exact ⟨_, rfl, rfl, fun _ _ => hw.trans k6⟩
                  · rename_i hg; exact absurd rfl hg
                · split
                  · unfold Does
                    go_simp
                  · rename_i hg; exact absurd rfl hg
                · split
                  · exact does_cmp (HNE.out w5) HGE.out _ _ rfl rfl rfl ⟨fun _ => rfl, fun _ _ => hw⟩
                  · rename_i hg; exact absurd rfl hg
                all_goals first | (unfold Does; go_simp; done) | (split <;> first | (rename_i hg; exact absurd rfl hg) | (unfold Does; go_simp; done))
              case hend1 =>
              intro L9 w8 hL hw
              have HN8 := Lib.hid ((HN3.out.keeps HKD.out).keeps hw)
              have HR8 := Lib.hid ((HR3.out.keeps HKD.out).keeps hw)
              have HX8 := Lib.hid (HXD.out.keeps hw)
              have HI8 := Lib.hid (((HI3.out : IsE rowPr w3 a L.length L).keeps HKD.out).keeps hw)
              clear hw hL
              go_wp2_with (first | (refine wp_ldPat (b := bx) HX8.out rfl _ rfl rfl ?_) | (refine wp_stPat (b := b) ex ver a L.length c (HR8.out.z.there (show 0 + 3 ≤ 3 by decide)) rfl _ _ rfl rfl rfl ?_))
              have E := HR8.out.ends (patC ex ver a L.length c) rfl
              have ko : Only b w8 (w8.setCells b 0 (patC ex ver a L.length c)) := only_setCells b (patC ex ver a L.length c) 0 w8
              have hbl : b < (w2.alloc (.cells #[.int .i64 0, .bool pv, .int .i64 ex, .int .i64 ver, .bool nw, .int .i64 num, .int .i64 la, .string B] 65)).heap.size := HR2.out.z.old
              exact cs_ret2 Try.results18 (lvPat E.z) rfl rfl rfl (HO2.out a c _ E.k (HI8.out.foot (ko.foot (S := fun k => k = b) rfl) (fun p hp e => by have := HAP.out p hp; omega)) HC3.out.1 HC3.out.2 (fun p hp => by have := HAP.out p hp; omega))
            · have hsb : (!sameB C ⟨0, pv, ex, ver, nw, num, la, B⟩) = true := by
                cases hq : sameB C ⟨0, pv, ex, ver, nw, num, la, B⟩
                · rfl
                · exact absurd (sameB_iff.1 hq) hcs
              simp only [hsb] at hne
              have HE := Lib.hid (show G 12 from HG.out _ ⟨by decide, fun z h1 h2 => hcs (by rw [← hC]; have h3 := HIS.out z h1 h2; have h4 := HTB.out z h1 h2; rw [h4, h3]), fun _ h => absurd rfl h⟩)
              clear hcs hC HTB HIS HOKP HOK HG hok
              have HNE := Lib.hid hne
              have HGE := Lib.hid hge
              clear hne hge hsb
              go_enter Try.func18, Try.ntmps18
              go_wp2_with (first | (go_at_call 23; refine HDC.out.mono ?_; rintro _ w2 ⟨rfl, k2⟩; have HN2 := Lib.hid (HNO.out.keeps (Keeps.alloc k2 (.cells #[.int .i64 0, .bool pv, .int .i64 ex, .int .i64 ver, .bool nw, .int .i64 num, .int .i64 la, .string B] 65))); have HR2 := Lib.hid (HRS.out.keeps (Keeps.alloc k2 (.cells #[.int .i64 0, .bool pv, .int .i64 ex, .int .i64 ver, .bool nw, .int .i64 num, .int .i64 la, .string B] 65))); have HS2 := Lib.hid (secC_made w2 ⟨0, pv, ex, ver, nw, num, la, B⟩); clear k2) | (go_at_call 19; refine (HRP.out _).mono ?_; rintro _ w3 ⟨a, n, c, r, rfl, k3, y1, y2⟩; obtain ⟨hr, hn, hi, hc1, hc2, hap⟩ := y1 HM0.out; subst hr hn; have HI3 := Lib.hid hi; have HC3 := Lib.hid (And.intro hc1 hc2); have HAP := Lib.hid hap; have HN3 := Lib.hid (HN2.out.keeps k3); have HR3 := Lib.hid (HR2.out.keeps k3); have HS3 := Lib.hid (HS2.out.keeps k3); clear k3 y1 y2 hi hc1 hc2 hap) | (refine wp_ldSec (b := w2.heap.size) HS2.out rfl _ rfl rfl ?_))
              obtain ⟨bx, hbx⟩ : ∃ bx, w3.heap.size = bx := ⟨_, rfl⟩
              obtain ⟨bs, hbs⟩ : ∃ bs, w2.heap.size = bs := ⟨_, rfl⟩
              have HBS := Lib.hid hbs
              obtain ⟨wD, hD⟩ : ∃ wD, w3.alloc (.cells #[.int .i64 ex, .int .i64 ver, .slice a L.length c] 24) = wD := ⟨_, rfl⟩
              have HXD := Lib.hid (show CsAt bx (patC ex ver a L.length c) wD by rw [← hD, ← hbx]; exact CsAt.made w3 #[.int .i64 ex, .int .i64 ver, .slice a L.length c] _ (by simp))
              have HKD := Lib.hid (show Keeps w3 wD by rw [← hD]; exact (Keeps.refl w3).alloc _)
              have HSD := Lib.hid (show CsAt bs (secC ⟨0, pv, ex, ver, nw, num, la, B⟩) wD by rw [← hbs]; exact HS3.out.keeps HKD.out)
              have HCD := Lib.hid (fun W (k : Keeps wD W) => HCK.out W a c (((HI3.out : IsE rowPr w3 a L.length L).keeps HKD.out).keeps k))
              rw [hD, hbx, hbs]
              clear hD
              have HCC := Lib.hid (fun W (k : Keeps wD W) => HCA.out W a c (((HI3.out : IsE rowPr w3 a L.length L).keeps HKD.out).keeps k))
              refine wp_draw (by kernel_rfl) [.agg #[.int .i64 ex, .int .i64 ver, .slice a L.length c], .iface 24 (.agg #[.int .i64 ex, .int .i64 ver, .slice a L.length c]), .int .i64 0, .bool false, .bool false, .agg #[.int .i64 ex, .int .i64 ver, .slice a L.length c], .iface 24 (.agg #[.int .i64 ex, .int .i64 ver, .slice a L.length c]), secV C, secV ⟨0, pv, ex, ver, nw, num, la, B⟩, .bool true, .bool true] (fun _ W => Keeps wD W) rfl (by kernel_rfl) (fin := ?fin2) ?hfin2 ((Keeps.refl wD).eqv (Eqv.drew wD)) ?each2 ?hend2
              case hfin2 => simp [seqA, dstOf, Act.put]; rfl
              case each2 =>
                refine ⟨?_, ?_, ?_, ?_, ?_, ?_, ?_, ?_, ?_, ?_, ?_, trivial⟩
                all_goals intro L9 w5 h0 hd hsh hw
                all_goals have e0 := (HXD.out.keeps hw).cell 0 rfl
                all_goals have e1 := (HXD.out.keeps hw).cell 1 rfl
                all_goals have e2 := (HXD.out.keeps hw).cell 2 rfl
                all_goals have s0 := (HSD.out.keeps hw).cell 0 rfl
                all_goals have s1 := (HSD.out.keeps hw).cell 1 rfl
                all_goals have s2 := (HSD.out.keeps hw).cell 2 rfl
                all_goals have s3 := (HSD.out.keeps hw).cell 3 rfl
                all_goals have s4 := (HSD.out.keeps hw).cell 4 rfl
                all_goals have s5 := (HSD.out.keeps hw).cell 5 rfl
                all_goals have s6 := (HSD.out.keeps hw).cell 6 rfl
                all_goals have s7 := (HSD.out.keeps hw).cell 7 rfl
                rotate_left 2
                · unfold Does
                  go_simp
                  refine (HCD.out w5 hw).mono ?_
                  rintro e w6 ⟨rfl, k6⟩
                  exact ⟨_, rfl, rfl, fun _ _ => hw.trans k6⟩
                rotate_left 4
                · split
                  · unfold Does
                    go_simp
                    refine (HCC.out w5 hw).mono ?_
                    rintro e w6 ⟨rfl, k6⟩
                    exact ⟨_, rfl, rfl, fun _ _ => hw.trans k6⟩
                  · rename_i hg; exact absurd rfl hg
                · split
                  · unfold Does
                    go_simp
                  · rename_i hg; exact absurd rfl hg
                · split
                  · exact does_cmp (HNE.out w5) HGE.out _ _ rfl rfl rfl ⟨fun _ => rfl, fun _ _ => hw⟩
                  · rename_i hg; exact absurd rfl hg
                all_goals first | (unfold Does; go_simp; done) | (split <;> first | (rename_i hg; exact absurd rfl hg) | (unfold Does; go_simp; done))
              case hend2 =>
              intro L9 w8 hL hw
              have HN8 := Lib.hid ((HN3.out.keeps HKD.out).keeps hw)
              have HR8 := Lib.hid ((HR3.out.keeps HKD.out).keeps hw)
              have HX8 := Lib.hid (HXD.out.keeps hw)
              have HI8 := Lib.hid (((HI3.out : IsE rowPr w3 a L.length L).keeps HKD.out).keeps hw)
              clear hw hL
              go_wp2_with (first | (refine wp_ldPat (b := b + 1) HN8.out.z rfl _ rfl rfl ?_) | (refine wp_stPat (b := b) 0 0 none 0 0 (HR8.out.z.there (show 0 + 3 ≤ 3 by decide)) rfl _ _ rfl rfl rfl ?_))
              have E := HR8.out.ends (patC 0 0 none 0 0) rfl
              exact cs_ret2 Try.results18 (lvPat E.z) rfl rfl rfl (HP.out 12 _ E.k HE.out)
          · have HE := Lib.hid (show G 12 from HG.out _ ⟨by decide, fun z h1 h2 => hk (by rw [← HKK.out]; refine (patK_ok _).2 ?_; have h3 := HIS.out z h1 h2; rw [← h3]; exact h1), fun _ h => absurd rfl h⟩)
            have hkb : (K != 0) = true := by simpa using hk
            clear hk HTB HIS HOKP HG HKK
            go_enter Try.func18, Try.ntmps18
            go_wp2_with (first | (go_at_call 23; refine HDC.out.mono ?_; rintro _ w2 ⟨rfl, k2⟩; have HN2 := Lib.hid (HNO.out.keeps (Keeps.alloc k2 (.cells #[.int .i64 0, .bool pv, .int .i64 ex, .int .i64 ver, .bool nw, .int .i64 num, .int .i64 la, .string B] 65))); have HR2 := Lib.hid (HRS.out.keeps (Keeps.alloc k2 (.cells #[.int .i64 0, .bool pv, .int .i64 ex, .int .i64 ver, .bool nw, .int .i64 num, .int .i64 la, .string B] 65))); have HS2 := Lib.hid (secC_made w2 ⟨0, pv, ex, ver, nw, num, la, B⟩); clear k2) | (go_at_call 19; refine (HRP.out _).mono ?_; rintro _ w3 ⟨a, n, c, r, rfl, k3, y1, y2⟩; obtain ⟨hr, hn, hi, hc1, hc2, hap⟩ := y1 HM0.out; subst hr hn; have HI3 := Lib.hid hi; have HC3 := Lib.hid (And.intro hc1 hc2); have HAP := Lib.hid hap; have HN3 := Lib.hid (HN2.out.keeps k3); have HR3 := Lib.hid (HR2.out.keeps k3); have HS3 := Lib.hid (HS2.out.keeps k3); clear k3 y1 y2 hi hc1 hc2 hap) | (refine wp_ldSec (b := w2.heap.size) HS2.out rfl _ rfl rfl ?_))
            obtain ⟨bx, hbx⟩ : ∃ bx, w3.heap.size = bx := ⟨_, rfl⟩
            obtain ⟨bs, hbs⟩ : ∃ bs, w2.heap.size = bs := ⟨_, rfl⟩
            have HBS := Lib.hid hbs
            obtain ⟨wD, hD⟩ : ∃ wD, w3.alloc (.cells #[.int .i64 ex, .int .i64 ver, .slice a L.length c] 24) = wD := ⟨_, rfl⟩
            have HXD := Lib.hid (show CsAt bx (patC ex ver a L.length c) wD by rw [← hD, ← hbx]; exact CsAt.made w3 #[.int .i64 ex, .int .i64 ver, .slice a L.length c] _ (by simp))
            have HKD := Lib.hid (show Keeps w3 wD by rw [← hD]; exact (Keeps.refl w3).alloc _)
            have HSD := Lib.hid (show CsAt bs (secC ⟨0, pv, ex, ver, nw, num, la, B⟩) wD by rw [← hbs]; exact HS3.out.keeps HKD.out)
            have HCD := Lib.hid (fun W (k : Keeps wD W) => HCK.out W a c (((HI3.out : IsE rowPr w3 a L.length L).keeps HKD.out).keeps k))
            rw [hD, hbx, hbs]
            clear hD
            refine wp_draw (by kernel_rfl) [.agg #[.int .i64 ex, .int .i64 ver, .slice a L.length c], .iface 24 (.agg #[.int .i64 ex, .int .i64 ver, .slice a L.length c]), .int .i64 K, .bool true, .bool true, undef, undef, undef, undef, undef, .bool true] (fun _ W => Keeps wD W) rfl (by kernel_rfl) (fin := ?fin3) ?hfin3 ((Keeps.refl wD).eqv (Eqv.drew wD)) ?each3 ?hend3
            case hfin3 => simp [seqA, dstOf, Act.put]; rfl
            case each3 =>
              refine ⟨?_, ?_, ?_, ?_, ?_, ?_, ?_, ?_, ?_, ?_, ?_, trivial⟩
              all_goals intro L9 w5 h0 hd hsh hw
              all_goals have e0 := (HXD.out.keeps hw).cell 0 rfl
              all_goals have e1 := (HXD.out.keeps hw).cell 1 rfl
              all_goals have e2 := (HXD.out.keeps hw).cell 2 rfl
              all_goals have s0 := (HSD.out.keeps hw).cell 0 rfl
              all_goals have s1 := (HSD.out.keeps hw).cell 1 rfl
              all_goals have s2 := (HSD.out.keeps hw).cell 2 rfl
              all_goals have s3 := (HSD.out.keeps hw).cell 3 rfl
              all_goals have s4 := (HSD.out.keeps hw).cell 4 rfl
              all_goals have s5 := (HSD.out.keeps hw).cell 5 rfl
              all_goals have s6 := (HSD.out.keeps hw).cell 6 rfl
              all_goals have s7 := (HSD.out.keeps hw).cell 7 rfl
              rotate_left 2
              · unfold Does
                go_simp
                refine (HCD.out w5 hw).mono ?_
                rintro e w6 ⟨rfl, k6⟩
                exact ⟨_, rfl, rfl, fun _ _ => hw.trans k6⟩
              all_goals first | (unfold Does; go_simp; done) | (split <;> first | (rename_i hg; exact absurd hg (by show ¬ (false = true); decide)) | exact ⟨fun _ => rfl, fun _ _ => hw⟩)
            case hend3 =>
            intro L9 w8 hL hw
            have HN8 := Lib.hid ((HN3.out.keeps HKD.out).keeps hw)
            have HR8 := Lib.hid ((HR3.out.keeps HKD.out).keeps hw)
            have HX8 := Lib.hid (HXD.out.keeps hw)
            have HI8 := Lib.hid (((HI3.out : IsE rowPr w3 a L.length L).keeps HKD.out).keeps hw)
            clear hw hL
            go_wp2_with (first | (refine wp_ldPat (b := b + 1) HN8.out.z rfl _ rfl rfl ?_) | (refine wp_stPat (b := b) 0 0 none 0 0 (HR8.out.z.there (show 0 + 3 ≤ 3 by decide)) rfl _ _ rfl rfl rfl ?_))
            have E := HR8.out.ends (patC 0 0 none 0 0) rfl
            exact cs_ret2 Try.results18 (lvPat E.z) rfl rfl rfl (HP.out 12 _ E.k HE.out)
    · have HE := Lib.hid (show G 14 from HG.out _ ⟨by decide, fun z h1 h2 => htb (by rw [HTB.out z h1 h2]; rfl), fun _ _ => rfl⟩)
      have htbb : (S.tb == 0) = false := by rw [beq_eq_false_iff_ne]; exact htb
      obtain ⟨tb, pv, ex, ver, nw, num, la, B⟩ := S
      simp only at htbb
      clear hbz hsz HTB HIS HOKP htb HG
      go_enter Try.func18, Try.ntmps18
      go_wp2_with (first | (go_at_call 23; refine HDC.out.mono ?_; rintro _ w2 ⟨rfl, k2⟩; have HN2 := Lib.hid (HNO.out.keeps (Keeps.alloc k2 (.cells #[.int .i64 tb, .bool pv, .int .i64 ex, .int .i64 ver, .bool nw, .int .i64 num, .int .i64 la, .string B] 65))); have HR2 := Lib.hid (HRS.out.keeps (Keeps.alloc k2 (.cells #[.int .i64 tb, .bool pv, .int .i64 ex, .int .i64 ver, .bool nw, .int .i64 num, .int .i64 la, .string B] 65))); clear k2) | (refine wp_ldPat (b := b + 1) HN2.out.z rfl _ rfl rfl ?_) | (refine wp_stPat (b := b) 0 0 none 0 0 (HR2.out.z.there (show 0 + 3 ≤ 3 by decide)) rfl _ _ rfl rfl rfl ?_))
      have E := HR2.out.ends (patC 0 0 none 0 0) rfl
      exact cs_ret2 Try.results18 (lvPat E.z) rfl rfl rfl (HP.out 14 _ E.k HE.out)
  · have HE := Lib.hid (show G e from HG.out _ ⟨he, fun z h1 h2 => he (HNOZ.out z h1 h2).1, fun h => absurd h he⟩)
    have heb : (e != 0) = true := by simpa using he
    obtain ⟨tb, pv, ex, ver, nw, num, la, B⟩ := S
    clear hbd HNOZ hsz HOKP he HG HS0
    go_enter Try.func18, Try.ntmps18
    go_wp2_with (first | (go_at_call 23; refine HDC.out.mono ?_; rintro _ w2 ⟨rfl, k2⟩; have HN2 := Lib.hid (HNO.out.keeps (Keeps.alloc k2 (.cells #[.int .i64 tb, .bool pv, .int .i64 ex, .int .i64 ver, .bool nw, .int .i64 num, .int .i64 la, .string B] 65))); have HR2 := Lib.hid (HRS.out.keeps (Keeps.alloc k2 (.cells #[.int .i64 tb, .bool pv, .int .i64 ex, .int .i64 ver, .bool nw, .int .i64 num, .int .i64 la, .string B] 65))); clear k2) | (refine wp_ldPat (b := b + 1) HN2.out.z rfl _ rfl rfl ?_) | (refine wp_stPat (b := b) 0 0 none 0 0 (HR2.out.z.there (show 0 + 3 ≤ 3 by decide)) rfl _ _ rfl rfl rfl ?_))
    have E := HR2.out.ends (patC 0 0 none 0 0) rfl
    exact cs_ret2 Try.results18 (lvPat E.z) rfl rfl rfl (HP.out e _ E.k HE.out)
/-- What decode of a Pmt answers. -/
def pmtDP (w0 : World) (l : List UInt8) (e : Ending) (w' : World) : Prop := ∃ (x : Pmt) (a : Option Addr) (c : Nat) (r : Int), e = .returned (.tuple #[pmtV x a c, .int .i64 r]) ∧ Keeps w0 w' ∧ IsE rowSt w' a x.l.length x.l ∧ x.l.length ≤ c ∧ c ≤ maxLen ∧ (∀ p, a = some p → w0.heap.size ≤ p.block) ∧
  ((r = 0 ∧ PmtOk x ∧ pmtE x = l) ∨ (r ≠ 0 ∧ x = ⟨0, 0, 0, ⟨#[]⟩, []⟩ ∧ (∀ z, PmtOk z → pmtE z ≠ l) ∧ ((dec l).2 = 0 → (dec l).1.tb ≠ 2 → r = 14)))
theorem pmtDP.no {w0 W : World} {l : List UInt8} {r : Int} (k : Keeps w0 W) (hr : r ≠ 0) (hz : ∀ z, PmtOk z → pmtE z ≠ l) (h4 : (dec l).2 = 0 → (dec l).1.tb ≠ 2 → r = 14) : pmtDP w0 l (.returned (.tuple #[.agg #[.int .i64 0, .int .i64 0, .int .i64 0, .string ⟨#[]⟩, .slice none 0 0], .int .i64 r])) W :=
  ⟨⟨0, 0, 0, ⟨#[]⟩, []⟩, none, 0, r, rfl, k, IsE.nil _ _, Nat.le_refl _, Nat.zero_le _, (fun p hp => by cases hp), .inr ⟨hr, rfl, hz, h4⟩⟩
set_option maxHeartbeats 3200000 in
theorem psdecpmt_any (t : ByteArray) (w : World) (ht : t.size ≤ 1000000) : Calls Try.prog 20 #[.string t, .int .i64 2, .func (.func 21) #[] #[]] w (pmtDP w (ls t)) := by
  obtain ⟨b, hb⟩ : ∃ b, w.heap.size = b := ⟨_, rfl⟩
  obtain ⟨wA, hA⟩ : ∃ wA, w.alloc (.cells #[.int .i64 0, .int .i64 0, .int .i64 0, .string ⟨#[]⟩, .slice none 0 0] 27) = wA := ⟨_, rfl⟩
  have hr0 := CsAns.start (Keeps.refl w) (a := #[.int .i64 0, .int .i64 0, .int .i64 0, .string ⟨#[]⟩, .slice none 0 0]) (by simp) hb hA
  have hzA : wA.heap.size = b + 1 := by rw [← hA, World.size_alloc, hb]
  obtain ⟨wB, hB⟩ : ∃ wB, wA.alloc (.cells #[.int .i64 0, .int .i64 0, .int .i64 0, .string ⟨#[]⟩, .slice none 0 0] 27) = wB := ⟨_, rfl⟩
  have kB : Keeps wA wB := by rw [← hB]; exact (Keeps.refl wA).alloc _
  have HRS := Lib.hid (hr0.keeps kB)
  have HNO := Lib.hid (CsAns.start hr0.k (a := #[.int .i64 0, .int .i64 0, .int .i64 0, .string ⟨#[]⟩, .slice none 0 0]) (by simp) hzA hB)
  have hsz := ls_size t
  have hdc := scdec_any wB t wB ht (Keeps.refl wB)
  unfold RdPost at hdc
  obtain ⟨⟨S, e⟩, hS⟩ : ∃ q, dec (ls t) = q := ⟨_, rfl⟩
  rw [hS] at hdc
  have hbd : e = 0 → (ls t).length = S.body.size + 12 := fun h0 => by
    have h1 := bytes_dec (l := ls t) (by rw [hS]; exact h0)
    rw [hS] at h1
    rw [← h1.2, bytes_length]
  have HNOZ := Lib.hid (show ∀ z, PmtOk z → pmtE z = ls t → e = 0 ∧ S = pmtS z from fun z hz hz2 => by
    have h1 := pmtE_dec hz
    rw [hz2, hS] at h1
    exact ⟨(Prod.mk.inj h1).2, (Prod.mk.inj h1).1⟩)
  obtain ⟨G, hG⟩ : ∃ G : Int → Prop, (fun r => r ≠ 0 ∧ (∀ z, PmtOk z → pmtE z ≠ ls t) ∧ (e = 0 → S.tb ≠ 2 → r = 14)) = G := ⟨_, rfl⟩
  have HG := Lib.hid (show ∀ r : Int, (r ≠ 0 ∧ (∀ z, PmtOk z → pmtE z ≠ ls t) ∧ (e = 0 → S.tb ≠ 2 → r = 14)) → G r from fun r h => by rw [← hG]; exact h)
  have HP := Lib.hid (show ∀ (r : Int) (W : World), Keeps w W → G r → pmtDP w (ls t) (.returned (.tuple #[.agg #[.int .i64 0, .int .i64 0, .int .i64 0, .string ⟨#[]⟩, .slice none 0 0], .int .i64 r])) W from fun r W k h => by
    rw [← hG] at h
    exact pmtDP.no k h.1 h.2.1 (by rw [hS]; exact h.2.2))
  clear hG
  have HDC := Lib.hid hdc
  have HOKP := Lib.hid (show ∀ (x : Pmt) (a : Option Addr) (c : Nat) (W : World), Keeps w W → IsE rowSt W a x.l.length x.l → x.l.length ≤ c → c ≤ maxLen → (∀ p, a = some p → w.heap.size ≤ p.block) → PmtOk x → pmtS x = S → e = 0 → pmtDP w (ls t) (.returned (.tuple #[pmtV x a c, .int .i64 0])) W from fun x a c W k h1 h2 h3 hp h4 h5 h6 => ⟨x, a, c, 0, rfl, k, h1, h2, h3, hp, .inl ⟨rfl, h4, pmt_was (by rw [hS, h6]) h5⟩⟩)
  obtain ⟨E0, hE0⟩ : ∃ E0, pmtDP w (ls t) = E0 := ⟨_, rfl⟩
  rw [hE0] at HP HOKP ⊢
  have HS0 := Lib.hid (show e = 0 → dec (ls t) = (S, 0) from fun h => by rw [hS, h])
  clear hr0 kB hS hE0 hdc
  by_cases he : e = 0
  · subst he
    have HSD := Lib.hid (HS0.out rfl)
    have hbz := hbd rfl
    rw [← hsz] at hbz
    clear hbd
    have HTB := Lib.hid (show ∀ z, PmtOk z → pmtE z = ls t → S = pmtS z from fun z h1 h2 => (HNOZ.out z h1 h2).2)
    have HIS := Lib.hid (show ∀ z, PmtOk z → pmtE z = ls t → rdPmt S = some z from fun z h1 h2 => (pmt_is HSD.out h1 h2).2)
    clear HNOZ HS0 HSD
    by_cases htb : S.tb = 2
    · by_cases hbig : 1024 < t.size
      · have HE := Lib.hid (show G 17 from HG.out _ ⟨by decide, fun z h1 h2 => by
          have h3 := pmtE_length z
          rw [h2, ← hsz] at h3
          have h4 := h1.2.2.2.2.2
          omega, fun _ h => absurd htb h⟩)
        have hbi : (1024 : Int) < (t.size : Int) := by omega
        obtain ⟨tb, pv, ex, ver, nw, num, la, B⟩ := S
        simp only at htb
        subst htb
        clear hbz hbig hsz HTB HIS HOKP HG
        go_enter Try.func20, Try.ntmps20
        go_wp2_with (first | (go_at_call 23; refine HDC.out.mono ?_; rintro _ w2 ⟨rfl, k2⟩; have HN2 := Lib.hid (HNO.out.keeps (Keeps.alloc k2 (.cells #[.int .i64 2, .bool pv, .int .i64 ex, .int .i64 ver, .bool nw, .int .i64 num, .int .i64 la, .string B] 65))); have HR2 := Lib.hid (HRS.out.keeps (Keeps.alloc k2 (.cells #[.int .i64 2, .bool pv, .int .i64 ex, .int .i64 ver, .bool nw, .int .i64 num, .int .i64 la, .string B] 65))); clear k2) | (refine wp_ldPmt (b := b + 1) HN2.out.z rfl _ rfl rfl ?_) | (refine wp_stPmt (b := b) 0 0 0 ⟨#[]⟩ none 0 0 (HR2.out.z.there (show 0 + 5 ≤ 5 by decide)) rfl _ _ rfl rfl rfl ?_))
        have E := HR2.out.ends (pmtC 0 0 0 ⟨#[]⟩ none 0 0) rfl
        exact cs_ret2 Try.results20 (lvPmt E.z) rfl rfl rfl (HP.out 17 _ E.k HE.out)
      · have hbi : ¬ (1024 : Int) < (t.size : Int) := by omega
        have hBs : S.body.size ≤ 1012 := by omega
        have HRP := Lib.hid (fun W => psreadpmt_any S W (by omega))
        unfold RmPost at HRP
        have HKZ := Lib.hid (show S.body.size ≤ 1012 from hBs)
        obtain ⟨tb, pv, ex, ver, nw, num, la, B⟩ := S
        simp only at htb
        subst htb
        obtain ⟨O, hO⟩ : ∃ O, rdPmt ⟨2, pv, ex, ver, nw, num, la, B⟩ = O := ⟨_, rfl⟩
        rw [hO] at HIS
        simp only [hO] at HRP
        have HO := Lib.hid hO
        clear hO
        clear hbz hbig hsz hBs
        by_cases hm : O = none
        · have HE := Lib.hid (show ∀ r : Int, r ≠ 0 → G r from fun r hr => HG.out _ ⟨hr, fun z h1 h2 => (by
            have h3 := HIS.out z h1 h2
            rw [hm] at h3; cases h3), fun _ h => absurd rfl h⟩)
          clear HTB HIS HOKP HG
          subst hm
          have HRQ := Lib.hid (fun W => show Calls Try.prog 21 #[secV ⟨2, pv, ex, ver, nw, num, la, B⟩] W (fun e w' => ∃ (X : Pmt) (a : Option Addr) (n c : Nat) (r : Int), e = .returned (.tuple #[.agg #[.int .i64 X.prog, .int .i64 X.ver, .int .i64 X.clock, .string X.info, .slice a n c], .int .i64 r]) ∧ Keeps W w' ∧ (r != 0) = true ∧ G r) from (HRP.out W).mono fun e w' ⟨X, a, n, c, r, h1, h2, _, h4⟩ => ⟨X, a, n, c, r, h1, h2, (by simpa using h4 rfl), HE.out r (h4 rfl)⟩)
          clear HE HRP
          go_enter Try.func20, Try.ntmps20
          go_wp2_with (first | (go_at_call 23; refine HDC.out.mono ?_; rintro _ w2 ⟨rfl, k2⟩; have HN2 := Lib.hid (HNO.out.keeps (Keeps.alloc k2 (.cells #[.int .i64 2, .bool pv, .int .i64 ex, .int .i64 ver, .bool nw, .int .i64 num, .int .i64 la, .string B] 65))); have HR2 := Lib.hid (HRS.out.keeps (Keeps.alloc k2 (.cells #[.int .i64 2, .bool pv, .int .i64 ex, .int .i64 ver, .bool nw, .int .i64 num, .int .i64 la, .string B] 65))); have HS2 := Lib.hid (secC_made w2 ⟨2, pv, ex, ver, nw, num, la, B⟩); clear k2) | (go_at_call 21; refine (HRQ.out _).mono ?_; rintro _ w3 ⟨X, a, n, c, r, rfl, k3, y1, y2⟩; have hrb := y1; have HRR := Lib.hid y2; have HN3 := Lib.hid ((HN2.out.keeps k3).alloc (.cells #[.int .i64 X.prog, .int .i64 X.ver, .int .i64 X.clock, .string X.info, .slice a n c] 27)); have HR3 := Lib.hid ((HR2.out.keeps k3).alloc (.cells #[.int .i64 X.prog, .int .i64 X.ver, .int .i64 X.clock, .string X.info, .slice a n c] 27)); clear k3 y1 y2) | (refine wp_ldSec (b := w2.heap.size) HS2.out rfl _ rfl rfl ?_) | (refine wp_ldPmt (b := b + 1) HN3.out.z rfl _ rfl rfl ?_) | (refine wp_stPmt (b := b) 0 0 0 ⟨#[]⟩ none 0 0 (HR3.out.z.there (show 0 + 5 ≤ 5 by decide)) rfl _ _ rfl rfl rfl ?_))
          have E := HR3.out.ends (pmtC 0 0 0 ⟨#[]⟩ none 0 0) rfl
          exact cs_ret2 Try.results20 (lvPmt E.z) rfl rfl rfl (HP.out r _ E.k HRR.out)
        · obtain ⟨⟨xp, xv, xk, xi, L⟩, rfl⟩ : ∃ x, O = some x := Option.ne_none_iff_exists'.1 hm
          have HLB := Lib.hid (rdPmt_few (s := ⟨2, pv, ex, ver, nw, num, la, B⟩) HO.out HKZ.out)
          obtain ⟨K, hK⟩ : ∃ K, pmtK (⟨xp, xv, xk, xi, L⟩ : Pmt) = K := ⟨_, rfl⟩
          have HKK := Lib.hid hK
          have HCK := Lib.hid (fun (W : World) (a : Option Addr) (c : Nat) (h : IsE rowSt W a L.length L) => show Calls Try.prog 89 #[.agg #[.int .i64 xp, .int .i64 xv, .int .i64 xk, .string xi, .slice a L.length c]] W fun e w' => e = .returned (.int .i64 K) ∧ Keeps W w' from by rw [← HKK.out]; exact pmtchk_any (x := ⟨xp, xv, xk, xi, L⟩) (cap := c) W h HLB.out.1 HLB.out.2.1 HLB.out.2.2)
          have m1 := metPmtC
          have m2 := metPmtS
          clear hK
          clear hm HO
          by_cases hk : K = 0
          · subst hk
            have hok : PmtOk (⟨xp, xv, xk, xi, L⟩ : Pmt) := (pmtK_ok _).1 HKK.out
            have HCA := Lib.hid (fun (W : World) (a : Option Addr) (c : Nat) (h : IsE rowSt W a L.length L) => show Calls Try.prog 88 #[.agg #[.int .i64 xp, .int .i64 xv, .int .i64 xk, .string xi, .slice a L.length c]] W fun e w' => e = .returned (secV (pmtS ⟨xp, xv, xk, xi, L⟩)) ∧ Keeps W w' from pmtcar_any (x := ⟨xp, xv, xk, xi, L⟩) (cap := c) W h hok)
            have HOK := Lib.hid (show ∀ (a : Option Addr) (c : Nat) (W : World), Keeps w W → IsE rowSt W a L.length L → L.length ≤ c → c ≤ maxLen → (∀ p, a = some p → w.heap.size ≤ p.block) → pmtS ⟨xp, xv, xk, xi, L⟩ = ⟨2, pv, ex, ver, nw, num, la, B⟩ → E0 (.returned (.tuple #[.agg #[.int .i64 xp, .int .i64 xv, .int .i64 xk, .string xi, .slice a L.length c], .int .i64 0])) W from fun a c W k1 h1 h2 h3 hp h4 => HOKP.out ⟨xp, xv, xk, xi, L⟩ a c W k1 h1 h2 h3 hp hok h4 rfl)
            obtain ⟨C, hC⟩ : ∃ C, pmtS (⟨xp, xv, xk, xi, L⟩ : Pmt) = C := ⟨_, rfl⟩
            rw [hC] at HCA HOK
            have hne : ∀ W, (binOp .neq 65 (secV C) (secV ⟨2, pv, ex, ver, nw, num, la, B⟩)).run Try.prog W = .ok (.bool (!sameB C ⟨2, pv, ex, ver, nw, num, la, B⟩)) W := fun W => neS C ⟨2, pv, ex, ver, nw, num, la, B⟩ W
            have hge := egS
            by_cases hcs : C = ⟨2, pv, ex, ver, nw, num, la, B⟩
            · have hsb : (!sameB C ⟨2, pv, ex, ver, nw, num, la, B⟩) = false := by rw [sameB_iff.2 hcs]; rfl
              simp only [hsb] at hne
              have HO2 := Lib.hid (fun a c W k h1 h2 h3 hp => HOK.out a c W k h1 h2 h3 hp hcs)
              clear hcs hC HTB HIS HOKP HOK HG HP hok
              have HNE := Lib.hid hne
              have HGE := Lib.hid hge
              clear hne hge hsb
              go_enter Try.func20, Try.ntmps20
              go_wp2_with (first | (go_at_call 23; refine HDC.out.mono ?_; rintro _ w2 ⟨rfl, k2⟩; have HN2 := Lib.hid (HNO.out.keeps (Keeps.alloc k2 (.cells #[.int .i64 2, .bool pv, .int .i64 ex, .int .i64 ver, .bool nw, .int .i64 num, .int .i64 la, .string B] 65))); have HR2 := Lib.hid (HRS.out.keeps (Keeps.alloc k2 (.cells #[.int .i64 2, .bool pv, .int .i64 ex, .int .i64 ver, .bool nw, .int .i64 num, .int .i64 la, .string B] 65))); have HS2 := Lib.hid (secC_made w2 ⟨2, pv, ex, ver, nw, num, la, B⟩); clear k2) | (go_at_call 21; refine (HRP.out _).mono ?_; rintro _ w3 ⟨X, a, n, c, r, rfl, k3, y1, y2⟩; obtain ⟨hr, hx, hn, hi, hc1, hc2, hap⟩ := y1 _ rfl; subst hr hx hn; have HI3 := Lib.hid hi; have HC3 := Lib.hid (And.intro hc1 hc2); have HAP := Lib.hid hap; have HN3 := Lib.hid (HN2.out.keeps k3); have HR3 := Lib.hid (HR2.out.keeps k3); have HS3 := Lib.hid (HS2.out.keeps k3); clear k3 y1 y2 hi hc1 hc2 hap) | (refine wp_ldSec (b := w2.heap.size) HS2.out rfl _ rfl rfl ?_))
              obtain ⟨bx, hbx⟩ : ∃ bx, w3.heap.size = bx := ⟨_, rfl⟩
              obtain ⟨bs, hbs⟩ : ∃ bs, w2.heap.size = bs := ⟨_, rfl⟩
              have HBS := Lib.hid hbs
              obtain ⟨wD, hD⟩ : ∃ wD, w3.alloc (.cells #[.int .i64 xp, .int .i64 xv, .int .i64 xk, .string xi, .slice a L.length c] 27) = wD := ⟨_, rfl⟩
              have HXD := Lib.hid (show CsAt bx (pmtC xp xv xk xi a L.length c) wD by rw [← hD, ← hbx]; exact CsAt.made w3 #[.int .i64 xp, .int .i64 xv, .int .i64 xk, .string xi, .slice a L.length c] _ (by simp))
              have HKD := Lib.hid (show Keeps w3 wD by rw [← hD]; exact (Keeps.refl w3).alloc _)
              have HSD := Lib.hid (show CsAt bs (secC ⟨2, pv, ex, ver, nw, num, la, B⟩) wD by rw [← hbs]; exact HS3.out.keeps HKD.out)
              have HCD := Lib.hid (fun W (k : Keeps wD W) => HCK.out W a c (((HI3.out : IsE rowSt w3 a L.length L).keeps HKD.out).keeps k))
              rw [hD, hbx, hbs]
              clear hD
              have HCC := Lib.hid (fun W (k : Keeps wD W) => HCA.out W a c (((HI3.out : IsE rowSt w3 a L.length L).keeps HKD.out).keeps k))
              refine wp_draw (by kernel_rfl) [.agg #[.int .i64 xp, .int .i64 xv, .int .i64 xk, .string xi, .slice a L.length c], .iface 27 (.agg #[.int .i64 xp, .int .i64 xv, .int .i64 xk, .string xi, .slice a L.length c]), .int .i64 0, .bool false, .bool false, .agg #[.int .i64 xp, .int .i64 xv, .int .i64 xk, .string xi, .slice a L.length c], .iface 27 (.agg #[.int .i64 xp, .int .i64 xv, .int .i64 xk, .string xi, .slice a L.length c]), secV C, secV ⟨2, pv, ex, ver, nw, num, la, B⟩, .bool false, .bool false] (fun _ W => Keeps wD W) rfl (by kernel_rfl) (fin := ?fin1) ?hfin1 ((Keeps.refl wD).eqv (Eqv.drew wD)) ?each1 ?hend1
              case hfin1 => simp [seqA, dstOf, Act.put]; rfl
              case each1 =>
                refine ⟨?_, ?_, ?_, ?_, ?_, ?_, ?_, ?_, ?_, ?_, ?_, trivial⟩
                all_goals intro L9 w5 h0 hd hsh hw
                all_goals have e0 := (HXD.out.keeps hw).cell 0 rfl
                all_goals have e1 := (HXD.out.keeps hw).cell 1 rfl
                all_goals have e2 := (HXD.out.keeps hw).cell 2 rfl
                all_goals have e3 := (HXD.out.keeps hw).cell 3 rfl
                all_goals have e4 := (HXD.out.keeps hw).cell 4 rfl
                all_goals have s0 := (HSD.out.keeps hw).cell 0 rfl
                all_goals have s1 := (HSD.out.keeps hw).cell 1 rfl
                all_goals have s2 := (HSD.out.keeps hw).cell 2 rfl
                all_goals have s3 := (HSD.out.keeps hw).cell 3 rfl
                all_goals have s4 := (HSD.out.keeps hw).cell 4 rfl
                all_goals have s5 := (HSD.out.keeps hw).cell 5 rfl
                all_goals have s6 := (HSD.out.keeps hw).cell 6 rfl
                all_goals have s7 := (HSD.out.keeps hw).cell 7 rfl
                rotate_left 2
                · unfold Does
                  go_simp
                  refine (HCD.out w5 hw).mono ?_
                  rintro e w6 ⟨rfl, k6⟩
                  exact ⟨_, rfl, rfl, fun _ _ => hw.trans k6⟩
                rotate_left 4
                · split
                  · unfold Does
                    go_simp
                    refine (HCC.out w5 hw).mono ?_
                    rintro e w6 ⟨rfl, k6⟩
                    exact ⟨_, rfl, rfl, fun _ _ => hw.trans k6⟩
                  · rename_i hg; exact absurd rfl hg
                · split
                  · unfold Does
                    go_simp
                  · rename_i hg; exact absurd rfl hg
                · split
                  · exact does_cmp (HNE.out w5) HGE.out _ _ rfl rfl rfl ⟨fun _ => rfl, fun _ _ => hw⟩
                  · rename_i hg; exact absurd rfl hg
                all_goals first | (unfold Does; go_simp; done) | (split <;> first | (rename_i hg; exact absurd rfl hg) | (unfold Does; go_simp; done))
              case hend1 =>
              intro L9 w8 hL hw
              have HN8 := Lib.hid ((HN3.out.keeps HKD.out).keeps hw)
              have HR8 := Lib.hid ((HR3.out.keeps HKD.out).keeps hw)
              have HX8 := Lib.hid (HXD.out.keeps hw)
              have HI8 := Lib.hid (((HI3.out : IsE rowSt w3 a L.length L).keeps HKD.out).keeps hw)
              clear hw hL
              go_wp2_with (first | (refine wp_ldPmt (b := bx) HX8.out rfl _ rfl rfl ?_) | (refine wp_stPmt (b := b) xp xv xk xi a L.length c (HR8.out.z.there (show 0 + 5 ≤ 5 by decide)) rfl _ _ rfl rfl rfl ?_))
              have E := HR8.out.ends (pmtC xp xv xk xi a L.length c) rfl
              have ko : Only b w8 (w8.setCells b 0 (pmtC xp xv xk xi a L.length c)) := only_setCells b (pmtC xp xv xk xi a L.length c) 0 w8
              have hbl : b < (w2.alloc (.cells #[.int .i64 2, .bool pv, .int .i64 ex, .int .i64 ver, .bool nw, .int .i64 num, .int .i64 la, .string B] 65)).heap.size := HR2.out.z.old
              exact cs_ret2 Try.results20 (lvPmt E.z) rfl rfl rfl (HO2.out a c _ E.k (HI8.out.foot (ko.foot (S := fun k => k = b) rfl) (fun p hp e => by have := HAP.out p hp; omega)) HC3.out.1 HC3.out.2 (fun p hp => by have := HAP.out p hp; omega))
            · have hsb : (!sameB C ⟨2, pv, ex, ver, nw, num, la, B⟩) = true := by
                cases hq : sameB C ⟨2, pv, ex, ver, nw, num, la, B⟩
                · rfl
                · exact absurd (sameB_iff.1 hq) hcs
              simp only [hsb] at hne
              have HE := Lib.hid (show G 12 from HG.out _ ⟨by decide, fun z h1 h2 => hcs (by rw [← hC]; have h3 := HIS.out z h1 h2; have h4 := HTB.out z h1 h2; rw [h4, Option.some.inj h3]), fun _ h => absurd rfl h⟩)
              clear hcs hC HTB HIS HOKP HOK HG hok
              have HNE := Lib.hid hne
              have HGE := Lib.hid hge
              clear hne hge hsb
              go_enter Try.func20, Try.ntmps20
              go_wp2_with (first | (go_at_call 23; refine HDC.out.mono ?_; rintro _ w2 ⟨rfl, k2⟩; have HN2 := Lib.hid (HNO.out.keeps (Keeps.alloc k2 (.cells #[.int .i64 2, .bool pv, .int .i64 ex, .int .i64 ver, .bool nw, .int .i64 num, .int .i64 la, .string B] 65))); have HR2 := Lib.hid (HRS.out.keeps (Keeps.alloc k2 (.cells #[.int .i64 2, .bool pv, .int .i64 ex, .int .i64 ver, .bool nw, .int .i64 num, .int .i64 la, .string B] 65))); have HS2 := Lib.hid (secC_made w2 ⟨2, pv, ex, ver, nw, num, la, B⟩); clear k2) | (go_at_call 21; refine (HRP.out _).mono ?_; rintro _ w3 ⟨X, a, n, c, r, rfl, k3, y1, y2⟩; obtain ⟨hr, hx, hn, hi, hc1, hc2, hap⟩ := y1 _ rfl; subst hr hx hn; have HI3 := Lib.hid hi; have HC3 := Lib.hid (And.intro hc1 hc2); have HAP := Lib.hid hap; have HN3 := Lib.hid (HN2.out.keeps k3); have HR3 := Lib.hid (HR2.out.keeps k3); have HS3 := Lib.hid (HS2.out.keeps k3); clear k3 y1 y2 hi hc1 hc2 hap) | (refine wp_ldSec (b := w2.heap.size) HS2.out rfl _ rfl rfl ?_))
              obtain ⟨bx, hbx⟩ : ∃ bx, w3.heap.size = bx := ⟨_, rfl⟩
              obtain ⟨bs, hbs⟩ : ∃ bs, w2.heap.size = bs := ⟨_, rfl⟩
              have HBS := Lib.hid hbs
              obtain ⟨wD, hD⟩ : ∃ wD, w3.alloc (.cells #[.int .i64 xp, .int .i64 xv, .int .i64 xk, .string xi, .slice a L.length c] 27) = wD := ⟨_, rfl⟩
              have HXD := Lib.hid (show CsAt bx (pmtC xp xv xk xi a L.length c) wD by rw [← hD, ← hbx]; exact CsAt.made w3 #[.int .i64 xp, .int .i64 xv, .int .i64 xk, .string xi, .slice a L.length c] _ (by simp))
              have HKD := Lib.hid (show Keeps w3 wD by rw [← hD]; exact (Keeps.refl w3).alloc _)
              have HSD := Lib.hid (show CsAt bs (secC ⟨2, pv, ex, ver, nw, num, la, B⟩) wD by rw [← hbs]; exact HS3.out.keeps HKD.out)
              have HCD := Lib.hid (fun W (k : Keeps wD W) => HCK.out W a c (((HI3.out : IsE rowSt w3 a L.length L).keeps HKD.out).keeps k))
              rw [hD, hbx, hbs]
              clear hD
              have HCC := Lib.hid (fun W (k : Keeps wD W) => HCA.out W a c (((HI3.out : IsE rowSt w3 a L.length L).keeps HKD.out).keeps k))
              refine wp_draw (by kernel_rfl) [.agg #[.int .i64 xp, .int .i64 xv, .int .i64 xk, .string xi, .slice a L.length c], .iface 27 (.agg #[.int .i64 xp, .int .i64 xv, .int .i64 xk, .string xi, .slice a L.length c]), .int .i64 0, .bool false, .bool false, .agg #[.int .i64 xp, .int .i64 xv, .int .i64 xk, .string xi, .slice a L.length c], .iface 27 (.agg #[.int .i64 xp, .int .i64 xv, .int .i64 xk, .string xi, .slice a L.length c]), secV C, secV ⟨2, pv, ex, ver, nw, num, la, B⟩, .bool true, .bool true] (fun _ W => Keeps wD W) rfl (by kernel_rfl) (fin := ?fin2) ?hfin2 ((Keeps.refl wD).eqv (Eqv.drew wD)) ?each2 ?hend2
              case hfin2 => simp [seqA, dstOf, Act.put]; rfl
              case each2 =>
                refine ⟨?_, ?_, ?_, ?_, ?_, ?_, ?_, ?_, ?_, ?_, ?_, trivial⟩
                all_goals intro L9 w5 h0 hd hsh hw
                all_goals have e0 := (HXD.out.keeps hw).cell 0 rfl
                all_goals have e1 := (HXD.out.keeps hw).cell 1 rfl
                all_goals have e2 := (HXD.out.keeps hw).cell 2 rfl
                all_goals have e3 := (HXD.out.keeps hw).cell 3 rfl
                all_goals have e4 := (HXD.out.keeps hw).cell 4 rfl
                all_goals have s0 := (HSD.out.keeps hw).cell 0 rfl
                all_goals have s1 := (HSD.out.keeps hw).cell 1 rfl
                all_goals have s2 := (HSD.out.keeps hw).cell 2 rfl
                all_goals have s3 := (HSD.out.keeps hw).cell 3 rfl
                all_goals have s4 := (HSD.out.keeps hw).cell 4 rfl
                all_goals have s5 := (HSD.out.keeps hw).cell 5 rfl
                all_goals have s6 := (HSD.out.keeps hw).cell 6 rfl
                all_goals have s7 := (HSD.out.keeps hw).cell 7 rfl
                rotate_left 2
                · unfold Does
                  go_simp
                  refine (HCD.out w5 hw).mono ?_
                  rintro e w6 ⟨rfl, k6⟩
                  exact ⟨_, rfl, rfl, fun _ _ => hw.trans k6⟩
                rotate_left 4
                · split
                  · unfold Does
                    go_simp
                    refine (HCC.out w5 hw).mono ?_
                    rintro e w6 ⟨rfl, k6⟩
                    exact ⟨_, rfl, rfl, fun _ _ => hw.trans k6⟩
                  · rename_i hg; exact absurd rfl hg
                · split
                  · unfold Does
                    go_simp
                  · rename_i hg; exact absurd rfl hg
                · split
                  · exact does_cmp (HNE.out w5) HGE.out _ _ rfl rfl rfl ⟨fun _ => rfl, fun _ _ => hw⟩
                  · rename_i hg; exact absurd rfl hg
                all_goals first | (unfold Does; go_simp; done) | (split <;> first | (rename_i hg; exact absurd rfl hg) | (unfold Does; go_simp; done))
              case hend2 =>
              intro L9 w8 hL hw
              have HN8 := Lib.hid ((HN3.out.keeps HKD.out).keeps hw)
              have HR8 := Lib.hid ((HR3.out.keeps HKD.out).keeps hw)
              have HX8 := Lib.hid (HXD.out.keeps hw)
              have HI8 := Lib.hid (((HI3.out : IsE rowSt w3 a L.length L).keeps HKD.out).keeps hw)
              clear hw hL
              go_wp2_with (first | (refine wp_ldPmt (b := b + 1) HN8.out.z rfl _ rfl rfl ?_) | (refine wp_stPmt (b := b) 0 0 0 ⟨#[]⟩ none 0 0 (HR8.out.z.there (show 0 + 5 ≤ 5 by decide)) rfl _ _ rfl rfl rfl ?_))
              have E := HR8.out.ends (pmtC 0 0 0 ⟨#[]⟩ none 0 0) rfl
              exact cs_ret2 Try.results20 (lvPmt E.z) rfl rfl rfl (HP.out 12 _ E.k HE.out)
          · have HE := Lib.hid (show G 12 from HG.out _ ⟨by decide, fun z h1 h2 => hk (by rw [← HKK.out]; refine (pmtK_ok _).2 ?_; have h3 := HIS.out z h1 h2; rw [← Option.some.inj h3.symm]; exact h1), fun _ h => absurd rfl h⟩)
            have hkb : (K != 0) = true := by simpa using hk
            clear hk HTB HIS HOKP HG HKK
            go_enter Try.func20, Try.ntmps20
            go_wp2_with (first | (go_at_call 23; refine HDC.out.mono ?_; rintro _ w2 ⟨rfl, k2⟩; have HN2 := Lib.hid (HNO.out.keeps (Keeps.alloc k2 (.cells #[.int .i64 2, .bool pv, .int .i64 ex, .int .i64 ver, .bool nw, .int .i64 num, .int .i64 la, .string B] 65))); have HR2 := Lib.hid (HRS.out.keeps (Keeps.alloc k2 (.cells #[.int .i64 2, .bool pv, .int .i64 ex, .int .i64 ver, .bool nw, .int .i64 num, .int .i64 la, .string B] 65))); have HS2 := Lib.hid (secC_made w2 ⟨2, pv, ex, ver, nw, num, la, B⟩); clear k2) | (go_at_call 21; refine (HRP.out _).mono ?_; rintro _ w3 ⟨X, a, n, c, r, rfl, k3, y1, y2⟩; obtain ⟨hr, hx, hn, hi, hc1, hc2, hap⟩ := y1 _ rfl; subst hr hx hn; have HI3 := Lib.hid hi; have HC3 := Lib.hid (And.intro hc1 hc2); have HAP := Lib.hid hap; have HN3 := Lib.hid (HN2.out.keeps k3); have HR3 := Lib.hid (HR2.out.keeps k3); have HS3 := Lib.hid (HS2.out.keeps k3); clear k3 y1 y2 hi hc1 hc2 hap) | (refine wp_ldSec (b := w2.heap.size) HS2.out rfl _ rfl rfl ?_))
            obtain ⟨bx, hbx⟩ : ∃ bx, w3.heap.size = bx := ⟨_, rfl⟩
            obtain ⟨bs, hbs⟩ : ∃ bs, w2.heap.size = bs := ⟨_, rfl⟩
            have HBS := Lib.hid hbs
            obtain ⟨wD, hD⟩ : ∃ wD, w3.alloc (.cells #[.int .i64 xp, .int .i64 xv, .int .i64 xk, .string xi, .slice a L.length c] 27) = wD := ⟨_, rfl⟩
            have HXD := Lib.hid (show CsAt bx (pmtC xp xv xk xi a L.length c) wD by rw [← hD, ← hbx]; exact CsAt.made w3 #[.int .i64 xp, .int .i64 xv, .int .i64 xk, .string xi, .slice a L.length c] _ (by simp))
            have HKD := Lib.hid (show Keeps w3 wD by rw [← hD]; exact (Keeps.refl w3).alloc _)
            have HSD := Lib.hid (show CsAt bs (secC ⟨2, pv, ex, ver, nw, num, la, B⟩) wD by rw [← hbs]; exact HS3.out.keeps HKD.out)
            have HCD := Lib.hid (fun W (k : Keeps wD W) => HCK.out W a c (((HI3.out : IsE rowSt w3 a L.length L).keeps HKD.out).keeps k))
            rw [hD, hbx, hbs]
            clear hD
            refine wp_draw (by kernel_rfl) [.agg #[.int .i64 xp, .int .i64 xv, .int .i64 xk, .string xi, .slice a L.length c], .iface 27 (.agg #[.int .i64 xp, .int .i64 xv, .int .i64 xk, .string xi, .slice a L.length c]), .int .i64 K, .bool true, .bool true, undef, undef, undef, undef, undef, .bool true] (fun _ W => Keeps wD W) rfl (by kernel_rfl) (fin := ?fin3) ?hfin3 ((Keeps.refl wD).eqv (Eqv.drew wD)) ?each3 ?hend3
            case hfin3 => simp [seqA, dstOf, Act.put]; rfl
            case each3 =>
              refine ⟨?_, ?_, ?_, ?_, ?_, ?_, ?_, ?_, ?_, ?_, ?_, trivial⟩
              all_goals intro L9 w5 h0 hd hsh hw
              all_goals have e0 := (HXD.out.keeps hw).cell 0 rfl
              all_goals have e1 := (HXD.out.keeps hw).cell 1 rfl
              all_goals have e2 := (HXD.out.keeps hw).cell 2 rfl
              all_goals have e3 := (HXD.out.keeps hw).cell 3 rfl
              all_goals have e4 := (HXD.out.keeps hw).cell 4 rfl
              all_goals have s0 := (HSD.out.keeps hw).cell 0 rfl
              all_goals have s1 := (HSD.out.keeps hw).cell 1 rfl
              all_goals have s2 := (HSD.out.keeps hw).cell 2 rfl
              all_goals have s3 := (HSD.out.keeps hw).cell 3 rfl
              all_goals have s4 := (HSD.out.keeps hw).cell 4 rfl
              all_goals have s5 := (HSD.out.keeps hw).cell 5 rfl
              all_goals have s6 := (HSD.out.keeps hw).cell 6 rfl
              all_goals have s7 := (HSD.out.keeps hw).cell 7 rfl
              rotate_left 2
              · unfold Does
                go_simp
                refine (HCD.out w5 hw).mono ?_
                rintro e w6 ⟨rfl, k6⟩
                exact ⟨_, rfl, rfl, fun _ _ => hw.trans k6⟩
              all_goals first | (unfold Does; go_simp; done) | (split <;> first | (rename_i hg; exact absurd hg (by show ¬ (false = true); decide)) | exact ⟨fun _ => rfl, fun _ _ => hw⟩)
            case hend3 =>
            intro L9 w8 hL hw
            have HN8 := Lib.hid ((HN3.out.keeps HKD.out).keeps hw)
            have HR8 := Lib.hid ((HR3.out.keeps HKD.out).keeps hw)
            have HX8 := Lib.hid (HXD.out.keeps hw)
            have HI8 := Lib.hid (((HI3.out : IsE rowSt w3 a L.length L).keeps HKD.out).keeps hw)
            clear hw hL
            go_wp2_with (first | (refine wp_ldPmt (b := b + 1) HN8.out.z rfl _ rfl rfl ?_) | (refine wp_stPmt (b := b) 0 0 0 ⟨#[]⟩ none 0 0 (HR8.out.z.there (show 0 + 5 ≤ 5 by decide)) rfl _ _ rfl rfl rfl ?_))
            have E := HR8.out.ends (pmtC 0 0 0 ⟨#[]⟩ none 0 0) rfl
            exact cs_ret2 Try.results20 (lvPmt E.z) rfl rfl rfl (HP.out 12 _ E.k HE.out)
    · have HE := Lib.hid (show G 14 from HG.out _ ⟨by decide, fun z h1 h2 => htb (by rw [HTB.out z h1 h2]; rfl), fun _ _ => rfl⟩)
      have htbb : (S.tb == 2) = false := by rw [beq_eq_false_iff_ne]; exact htb
      obtain ⟨tb, pv, ex, ver, nw, num, la, B⟩ := S
      simp only at htbb
      clear hbz hsz HTB HIS HOKP htb HG
      go_enter Try.func20, Try.ntmps20
      go_wp2_with (first | (go_at_call 23; refine HDC.out.mono ?_; rintro _ w2 ⟨rfl, k2⟩; have HN2 := Lib.hid (HNO.out.keeps (Keeps.alloc k2 (.cells #[.int .i64 tb, .bool pv, .int .i64 ex, .int .i64 ver, .bool nw, .int .i64 num, .int .i64 la, .string B] 65))); have HR2 := Lib.hid (HRS.out.keeps (Keeps.alloc k2 (.cells #[.int .i64 tb, .bool pv, .int .i64 ex, .int .i64 ver, .bool nw, .int .i64 num, .int .i64 la, .string B] 65))); clear k2) | (refine wp_ldPmt (b := b + 1) HN2.out.z rfl _ rfl rfl ?_) | (refine wp_stPmt (b := b) 0 0 0 ⟨#[]⟩ none 0 0 (HR2.out.z.there (show 0 + 5 ≤ 5 by decide)) rfl _ _ rfl rfl rfl ?_))
      have E := HR2.out.ends (pmtC 0 0 0 ⟨#[]⟩ none 0 0) rfl
      exact cs_ret2 Try.results20 (lvPmt E.z) rfl rfl rfl (HP.out 14 _ E.k HE.out)
  · have HE := Lib.hid (show G e from HG.out _ ⟨he, fun z h1 h2 => he (HNOZ.out z h1 h2).1, fun h => absurd h he⟩)
    have heb : (e != 0) = true := by simpa using he
    obtain ⟨tb, pv, ex, ver, nw, num, la, B⟩ := S
    clear hbd HNOZ hsz HOKP he HG HS0
    go_enter Try.func20, Try.ntmps20
    go_wp2_with (first | (go_at_call 23; refine HDC.out.mono ?_; rintro _ w2 ⟨rfl, k2⟩; have HN2 := Lib.hid (HNO.out.keeps (Keeps.alloc k2 (.cells #[.int .i64 tb, .bool pv, .int .i64 ex, .int .i64 ver, .bool nw, .int .i64 num, .int .i64 la, .string B] 65))); have HR2 := Lib.hid (HRS.out.keeps (Keeps.alloc k2 (.cells #[.int .i64 tb, .bool pv, .int .i64 ex, .int .i64 ver, .bool nw, .int .i64 num, .int .i64 la, .string B] 65))); clear k2) | (refine wp_ldPmt (b := b + 1) HN2.out.z rfl _ rfl rfl ?_) | (refine wp_stPmt (b := b) 0 0 0 ⟨#[]⟩ none 0 0 (HR2.out.z.there (show 0 + 5 ≤ 5 by decide)) rfl _ _ rfl rfl rfl ?_))
    have E := HR2.out.ends (pmtC 0 0 0 ⟨#[]⟩ none 0 0) rfl
    exact cs_ret2 Try.results20 (lvPmt E.z) rfl rfl rfl (HP.out e _ E.k HE.out)
end Go.Proofs.Ytebfihghfkcicaa
