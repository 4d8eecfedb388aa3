/-
  What ReadInt of package descr answers. The memory that was there stays.
-/
import Derived.Test.YtlghkdkaifcliaaDoorDsB2
namespace Go.Proofs.YtlghkdkaifcliaaDoor
open Go.RowKit Gf Ds
set_option maxRecDepth 100000
set_option linter.unusedVariables false
set_option linter.unusedSimpArgs false
/-- ReadInt's answer, in memory. -/
def RiP (w : World) (ext : Int) (s : List UInt8) (e : Ending) (w' : World) : Prop :=
  ∃ (x : IntD) (a : Option Addr) (n c : Nat) (ae : Option Addr) (ne ce : Nat) (es : List EnR) (G : Int), e = .returned (.tuple #[iV x.act x.plat x.ord a n c ae ne ce, .int .i64 G]) ∧ Keeps w w' ∧ (G ≠ 0 → ∀ y, okI y → bytI y = s → extI y ≠ ext) ∧
    (G = 0 → IntAt w' x a n ae ne es ∧ n ≤ 4095 ∧ ne ≤ 5000 ∧ (∀ e ∈ es, e.tn ≤ 4095 ∧ e.on ≤ 4095) ∧ okI x ∧ bytI x = s ∧ extI x = ext ∧ ∀ y, okI y → bytI y = s → extI y = ext → y = x)
theorem RiP.no {w W : World} {ext : Int} {s : List UInt8} {G : Int} (h : ∀ y, okI y → bytI y = s → extI y ≠ ext) (hG : G ≠ 0) (k : Keeps w W) : RiP w ext s (.returned (.tuple #[iV 0 0 0 none 0 0 none 0 0, .int .i64 G])) W :=
  ⟨⟨0, 0, 0, [], []⟩, none, 0, 0, none, 0, 0, [], G, rfl, k, fun _ => h, fun e => absurd e hG⟩
theorem xbI_lt (p : Int) : xbI p < 256 := Nat.mod_lt _ (by decide)
theorem ext_of {y : IntD} (h : okI y) : extI y = y.act * 256 + (xbI y.plat : Int) ∧ 0 ≤ extI y ∧ extI y ≤ 65535 ∧ y.act = extI y / 256 := by
  have e : extI y = y.act * 256 + (xbI y.plat : Int) := if_pos h.1
  obtain ⟨_, _, a0, a1⟩ := h.1
  have := xbI_lt y.plat
  refine ⟨e, ?_, ?_, ?_⟩ <;> rw [e] <;> omega
theorem int_eq {y : IntD} {A P O : Int} {inf : List Dsc} {acc : List (List Dsc × List Dsc)} (h0 : y.act = A) (h1 : y.plat = P) (h2 : y.ord = O) (h3 : y.info = inf) (h4 : y.ents = acc) : y = ⟨A, P, O, inf, acc⟩ := by
  obtain ⟨_, _, _, _, _⟩ := y
  simp only at h0 h1 h2 h3 h4
  subst h0 h1 h2 h3 h4
  rfl
theorem toList_ne {s t : ByteArray} (h : s ≠ t) : (s.toList == t.toList) = false := by
  rw [beq_eq_false_iff_ne, ls_toList, ls_toList]
  intro e
  exact h (by rw [← st_ls s, ← st_ls t, e])
theorem ri_few {w1 : World} {P O : Int} {inf : List Dsc} {acc : List (List Dsc × List Dsc)} {a : Option Addr} {n : Nat} {ae : Option Addr} {ne : Nat} {es : List EnR} {s : ByteArray} (hq : s.size ≤ 20000 ∨ ∃ y, okI y ∧ bytI y = ls s ∧ y.ents.length ≤ 5000) (hl : s.size = (ls s).length) (hat : IntAt w1 ⟨0, P, O, inf, acc⟩ a n ae ne es) (h4 : 4 * ne ≤ (ls s).length)
    (hun : ∀ y, okI y → bytI y = ls s → y.plat = P ∧ y.ord = O ∧ y.info = inf ∧ y.ents = acc) : ne ≤ 5000 := by
  rcases hq with q | ⟨y, hy, hb, hl⟩
  · omega
  · have h1 := (hun y hy hb).2.2.2
    have h2 := hat.ent.len
    have h3 : ne = es.length := hat.ent.row.1
    have h4 : es.length = acc.length := h2
    rw [h3, h4, ← h1]; exact hl
/-- What Body and Ext of what was read answer, in four cases. -/
theorem ri_cases {w1 w3 : World} {P O : Int} {inf : List Dsc} {acc : List (List Dsc × List Dsc)} {a : Option Addr} {n c : Nat} {ae : Option Addr} {ne ce : Nat} {es : List EnR} {s : ByteArray} {X X1 : Nat} (hat : IntAt w1 ⟨0, P, O, inf, acc⟩ a n ae ne es) (hn : n ≤ 4095) (hne : ne ≤ 5000) (hsm : ∀ e ∈ es, e.tn ≤ 4095 ∧ e.on ≤ 4095)
    (hun : ∀ y, okI y → bytI y = ls s → y.plat = P ∧ y.ord = O ∧ y.info = inf ∧ y.ents = acc) (k3 : Keeps w1 w3) (hX : (X : Int) / 256 = (X1 : Int)) (hI : ∀ W, Keeps w3 W → TI W) (hH : TH w3) (hL : TL w3) :
    (∃ (E : Int) (S0 : ByteArray), (E != 0) = true ∧ Calls Tryd.prog 33 #[iV (X1 : Int) P O a n c ae ne ce] w3 (fun e w' => e = .returned (.tuple #[.string S0, .int .i64 E]) ∧ Keeps w3 w') ∧ ∀ y, okI y → bytI y = ls s → extI y ≠ (X : Int)) ∨
    (∃ (T : ByteArray), (T.toList == s.toList) = false ∧ Calls Tryd.prog 33 #[iV (X1 : Int) P O a n c ae ne ce] w3 (fun e w' => e = .returned (.tuple #[.string T, .int .i64 0]) ∧ Keeps w3 w') ∧ ∀ y, okI y → bytI y = ls s → extI y ≠ (X : Int)) ∨
    (∃ (Z : Int), (Z != (X : Int)) = true ∧ Calls Tryd.prog 33 #[iV (X1 : Int) P O a n c ae ne ce] w3 (fun e w' => e = .returned (.tuple #[.string s, .int .i64 0]) ∧ Keeps w3 w') ∧ (∀ W, Keeps w3 W → Calls Tryd.prog 35 #[iV (X1 : Int) P O a n c ae ne ce] W fun e w' => e = .returned (.int .i64 Z) ∧ Keeps W w') ∧ ∀ y, okI y → bytI y = ls s → extI y ≠ (X : Int)) ∨
    (Calls Tryd.prog 33 #[iV (X1 : Int) P O a n c ae ne ce] w3 (fun e w' => e = .returned (.tuple #[.string s, .int .i64 0]) ∧ Keeps w3 w') ∧ (∀ W, Keeps w3 W → Calls Tryd.prog 35 #[iV (X1 : Int) P O a n c ae ne ce] W fun e w' => e = .returned (.int .i64 (X : Int)) ∧ Keeps W w') ∧ okI ⟨(X1 : Int), P, O, inf, acc⟩ ∧ bytI ⟨(X1 : Int), P, O, inf, acc⟩ = ls s ∧ extI ⟨(X1 : Int), P, O, inf, acc⟩ = (X : Int) ∧ ∀ y, okI y → bytI y = ls s → extI y = (X : Int) → y = ⟨(X1 : Int), P, O, inf, acc⟩) := by
  obtain ⟨x, hx⟩ : ∃ x : IntD, x = ⟨(X1 : Int), P, O, inf, acc⟩ := ⟨_, rfl⟩
  have hAT : IntAt w1 x a n ae ne es := by rw [hx]; exact ⟨hat.inf, hat.ent⟩
  have hBD : Calls Tryd.prog 33 #[iV (X1 : Int) P O a n c ae ne ce] w3 (DlPost w3 (bodyI x)) := by
    have := ebody_any x a n c ae ne ce es w3 (hAT.keeps k3) (by omega) hne (fun e he => ⟨by have := (hsm e he).1; omega, by have := (hsm e he).2; omega⟩) (hI w3 (Keeps.refl w3)) hH hL
    rw [hx] at this ⊢
    exact this
  have hEX : ∀ W, Keeps w3 W → Calls Tryd.prog 35 #[iV (X1 : Int) P O a n c ae ne ce] W fun e w' => e = .returned (.int .i64 (extI x)) ∧ Keeps W w' := fun W k => by
    have := eext_any x a n c ae ne ce W (hI W k)
    rw [hx] at this ⊢
    exact this
  have hS : ∀ y, okI y → bytI y = ls s → extI y = (X : Int) → y = x := fun y hy hb he => by
    obtain ⟨y1, y2, y3, y4⟩ := hun y hy hb
    rw [hx]
    exact int_eq (by rw [(ext_of hy).2.2.2, he]; exact hX) y1 y2 y3 y4
  rw [← hx]
  by_cases hE : (bodyI x).2 = 0
  · have hok := bodyI_good hE
    rw [bodyI_ok hok] at hBD
    by_cases hT : st (bytI x) = s
    · have hb : bytI x = ls s := by rw [← hT, ls_st]
      have hBD' : Calls Tryd.prog 33 #[iV (X1 : Int) P O a n c ae ne ce] w3 (fun e w' => e = .returned (.tuple #[.string s, .int .i64 0]) ∧ Keeps w3 w') := by rw [← hT]; exact hBD
      by_cases hZ : extI x = (X : Int)
      · exact .inr (.inr (.inr ⟨hBD', fun W k => by rw [← hZ]; exact hEX W k, hok, hb, hZ, hS⟩))
      · exact .inr (.inr (.inl ⟨extI x, bne_iff_ne.2 hZ, hBD', hEX, fun y hy hb he => hZ (by rw [← hS y hy hb he]; exact he)⟩))
    · exact .inr (.inl ⟨st (bytI x), toList_ne hT, hBD, fun y hy hb he => hT (by rw [← hS y hy hb he, hb, st_ls])⟩)
  · exact .inl ⟨(bodyI x).2, st (bodyI x).1, bne_iff_ne.2 hE, hBD, fun y hy hb he => hE (by rw [← hS y hy hb he, bodyI_ok hy])⟩
set_option maxHeartbeats 12800000 in
theorem eri_any (ext : Int) (s : ByteArray) (w : World) (hs : s.size ≤ 1000000) (hq : s.size ≤ 20000 ∨ ∃ y, okI y ∧ bytI y = ls s ∧ y.ents.length ≤ 5000) (hI : TI w) (hH : TH w) (hL : TL w) : Calls Tryd.prog 34 #[.int .i64 ext, .string s] w (RiP w ext (ls s)) := by
  obtain ⟨b, hb⟩ : ∃ b, w.heap.size = b := ⟨_, rfl⟩
  obtain ⟨wA, hA⟩ : ∃ wX, w.alloc (.cells #[.int .i64 0, .int .i64 0, .int .i64 0, .slice none 0 0, .slice none 0 0] 78) = wX := ⟨_, rfl⟩
  have A0 := Lib.hid (show CsAns w b (iC 0 0 0 none 0 0 none 0 0) wA from CsAns.start (Keeps.refl w) (by simp) hb hA)
  by_cases hneg : ext < 0
  · have HNO := Lib.hid (show ∀ y, okI y → bytI y = ls s → extI y ≠ ext from fun y hy _ e => by have := (ext_of hy).2.1; omega)
    clear hI hH hL hs hq
    go_enter Tryd.func34, Tryd.ntmps34
    go_wp2_with (refine wp_stI (b := b) (off := 0) (A := 0) (P := 0) (O := 0) (a := none) (n := 0) (c := 0) (ae := none) (ne := 0) (ce := 0) (A0.out.z.there (by decide)) rfl _ _ rfl rfl rfl ?_)
    have E := A0.out.ends (iC 0 0 0 none 0 0 none 0 0) rfl
    exact cs_ret2 Tryd.results34 (lvI E.z.r) rfl rfl rfl (RiP.no HNO.out (by decide) E.k)
  by_cases hbig : 65535 < ext
  · have HNO := Lib.hid (show ∀ y, okI y → bytI y = ls s → extI y ≠ ext from fun y hy _ e => by have := (ext_of hy).2.2.1; omega)
    clear hI hH hL hs hq
    go_enter Tryd.func34, Tryd.ntmps34
    go_wp2_with (refine wp_stI (b := b) (off := 0) (A := 0) (P := 0) (O := 0) (a := none) (n := 0) (c := 0) (ae := none) (ne := 0) (ce := 0) (A0.out.z.there (by decide)) rfl _ _ rfl rfl rfl ?_)
    have E := A0.out.ends (iC 0 0 0 none 0 0 none 0 0) rfl
    exact cs_ret2 Tryd.results34 (lvI E.z.r) rfl rfl rfl (RiP.no HNO.out (by decide) E.k)
  obtain ⟨X, rfl⟩ := Int.eq_ofNat_of_zero_le (show 0 ≤ ext by omega)
  obtain ⟨X1, hX1⟩ : ∃ N : Nat, X / 256 = N := ⟨_, rfl⟩
  have e1 : (X : Int) / 256 = (X1 : Int) := by omega
  have HRB := Lib.hid (erb_any s wA hs (hH.keeps A0.out.k) (hL.keeps A0.out.k))
  unfold RbP at HRB
  have HTI := Lib.hid (fun W (k : Keeps wA W) => hI.keeps (A0.out.k.trans k))
  have HTH := Lib.hid (fun W (k : Keeps wA W) => hH.keeps (A0.out.k.trans k))
  have HTL := Lib.hid (fun W (k : Keeps wA W) => hL.keeps (A0.out.k.trans k))
  have HSZ := Lib.hid hs
  have HQ := Lib.hid hq
  have HLS := Lib.hid (ls_size s)
  have HE1 := Lib.hid e1
  clear hI hH hL hs hq hX1
  go_enter Tryd.func34, Tryd.ntmps34
  go_wp2_with (fail)
  refine HRB.out.mono ?_
  rintro _ w1 ⟨P, O, inf, acc, a, n, c, ae, ne, ce, es, G, rfl, k1, hno, hgo⟩
  have HK1 := Lib.hid k1
  by_cases hG : G = 0
  · subst hG
    obtain ⟨hat, hab, hn, hne4, hsm, hun⟩ := hgo rfl
    have HAB := Lib.hid (show IntAb wA.heap.size ⟨(X1 : Int), P, O, inf, acc⟩ a ae es from ⟨hab.inf, hab.ent, hab.one⟩)
    have hne5 : ne ≤ 5000 := ri_few HQ.out HLS.out hat hne4 hun
    obtain ⟨bx, hbx⟩ : ∃ n, w1.heap.size = n := ⟨_, rfl⟩
    obtain ⟨w3, hw3⟩ : ∃ W, w1.alloc (.cells #[.int .i64 (X1 : Int), .int .i64 P, .int .i64 O, .slice a n c, .slice ae ne ce] 78) = W := ⟨_, rfl⟩
    have HX3 := Lib.hid (show CsAns w1 bx (iC (X1 : Int) P O a n c ae ne ce) w3 from ⟨(by rw [← hbx, ← hw3]; exact CsAt.made w1 #[.int .i64 (X1 : Int), .int .i64 P, .int .i64 O, .slice a n c, .slice ae ne ce] _ (by simp)), (by rw [← hw3]; exact (Keeps.refl w1).alloc _), (by omega)⟩)
    have HK3 := Lib.hid (HK1.out.trans HX3.out.k)
    have HAT := Lib.hid (show IntAt w3 ⟨(X1 : Int), P, O, inf, acc⟩ a n ae ne es from ⟨hat.inf.keeps HX3.out.k, hat.ent.keeps HX3.out.k⟩)
    have HN := Lib.hid hn
    have HNE := Lib.hid hne5
    have HSM := Lib.hid hsm
    have p0 : w3.cell? ⟨bx, 0, none⟩ = some (.int .i64 (X1 : Int)) := HX3.out.z.cell 0 rfl
    have p1 : w3.cell? ⟨bx, 1, none⟩ = some (.int .i64 P) := HX3.out.z.cell 1 rfl
    have p2 : w3.cell? ⟨bx, 2, none⟩ = some (.int .i64 O) := HX3.out.z.cell 2 rfl
    have p3 : w3.cell? ⟨bx, 3, none⟩ = some (.slice a n c) := HX3.out.z.cell 3 rfl
    have p4 : w3.cell? ⟨bx, 4, none⟩ = some (.slice ae ne ce) := HX3.out.z.cell 4 rfl
    rcases ri_cases (c := c) (ce := ce) hat hn hne5 hsm hun HX3.out.k HE1.out (fun W k => HTI.out W (HK3.out.trans k)) (HTH.out w3 HK3.out) (HTL.out w3 HK3.out) with ⟨E, S0, hne, hBD, hNO⟩ | ⟨T, hts, hBD, hNO⟩ | ⟨Z, hzx, hBD, hEX, hNO⟩ | ⟨hBD, hEX, hYES⟩
    all_goals (have HBD := Lib.hid hBD; clear hBD)
    all_goals (try (have HNO := Lib.hid hNO; clear hNO))
    all_goals (try (have HEX := Lib.hid hEX; clear hEX))
    all_goals (try (have HYES := Lib.hid hYES; clear hYES))
    all_goals (clear hno hgo hat hab hn hne4 hsm hun hne5 k1)
    all_goals dsimp only
    all_goals (go_wp2_with (first | (go_at_call 33; refine HBD.out.mono ?_; rintro _ w4 ⟨rfl, k4⟩; have HK4 := Lib.hid k4; have HA4 := Lib.hid (A0.out.keeps (HK3.out.trans k4)); have HX4 := Lib.hid (HX3.out.keeps k4); have q0 : w4.cell? ⟨bx, 0, none⟩ = some (.int .i64 (X1 : Int)) := HX4.out.z.cell 0 rfl; have q1 : w4.cell? ⟨bx, 1, none⟩ = some (.int .i64 P) := HX4.out.z.cell 1 rfl; have q2 : w4.cell? ⟨bx, 2, none⟩ = some (.int .i64 O) := HX4.out.z.cell 2 rfl; have q3 : w4.cell? ⟨bx, 3, none⟩ = some (.slice a n c) := HX4.out.z.cell 3 rfl; have q4 : w4.cell? ⟨bx, 4, none⟩ = some (.slice ae ne ce) := HX4.out.z.cell 4 rfl; clear k4 p0 p1 p2 p3 p4) | (go_at_call 35; refine (HEX.out w4 HK4.out).mono ?_; rintro _ w5 ⟨rfl, k5⟩; have HK5 := Lib.hid (HK4.out.trans k5); have HA5 := Lib.hid (HA4.out.keeps k5); have HX5 := Lib.hid (HX4.out.keeps k5); clear k5 q0 q1 q2 q3 q4) | (refine wp_ldI (b := bx) (off := 0) HX5.out.z.r rfl _ rfl rfl ?_) | (refine wp_stI (b := b) (off := 0) (A := (X1 : Int)) (P := P) (O := O) (a := a) (n := n) (c := c) (ae := ae) (ne := ne) (ce := ce) (HA5.out.z.there (by decide)) rfl _ _ rfl rfl rfl ?_) | (refine wp_stI (b := b) (off := 0) (A := 0) (P := 0) (O := 0) (a := none) (n := 0) (c := 0) (ae := none) (ne := 0) (ce := 0) (HA5.out.z.there (by decide)) rfl _ _ rfl rfl rfl ?_) | (refine wp_stI (b := b) (off := 0) (A := 0) (P := 0) (O := 0) (a := none) (n := 0) (c := 0) (ae := none) (ne := 0) (ce := 0) (HA4.out.z.there (by decide)) rfl _ _ rfl rfl rfl ?_) | (refine wp_stI (b := b) (off := 0) (A := 0) (P := 0) (O := 0) (a := none) (n := 0) (c := 0) (ae := none) (ne := 0) (ce := 0) (HA1.out.z.there (by decide)) rfl _ _ rfl rfl rfl ?_)))
    · have E := HA4.out.ends (iC 0 0 0 none 0 0 none 0 0) rfl
      exact cs_ret2 Tryd.results34 (lvI E.z.r) rfl rfl rfl (RiP.no HNO.out (by decide) E.k)
    · have E := HA4.out.ends (iC 0 0 0 none 0 0 none 0 0) rfl
      exact cs_ret2 Tryd.results34 (lvI E.z.r) rfl rfl rfl (RiP.no HNO.out (by decide) E.k)
    · have E := HA5.out.ends (iC 0 0 0 none 0 0 none 0 0) rfl
      exact cs_ret2 Tryd.results34 (lvI E.z.r) rfl rfl rfl (RiP.no HNO.out (by decide) E.k)
    · have E := HA5.out.ends (iC (X1 : Int) P O a n c ae ne ce) rfl
      obtain ⟨y1, y2, y3, y4⟩ := HYES.out
      have hbo := A0.out.z.old
      exact cs_ret2 Tryd.results34 (lvI E.z.r) rfl rfl rfl ⟨⟨(X1 : Int), P, O, inf, acc⟩, a, n, c, ae, ne, ce, es, 0, rfl, E.k, fun e => absurd rfl e, fun _ => ⟨(HAT.out.keeps HK5.out).foot HAB.out (Foot.setCells (S := fun k => k = b) rfl) (fun k e => by have e : k = b := e; omega), HN.out, HNE.out, HSM.out, y1, y2, y3, y4⟩⟩
  · have HNO := Lib.hid (hno hG)
    have hneG : (G != 0) = true := bne_iff_ne.2 hG
    have HGN := Lib.hid hG
    have HA1 := Lib.hid ((A0.out.keeps k1).alloc (.cells #[.int .i64 0, .int .i64 P, .int .i64 O, .slice a n c, .slice ae ne ce] 78))
    clear hno hgo k1 hG
    dsimp only
    go_wp2_with (refine wp_stI (b := b) (off := 0) (A := 0) (P := 0) (O := 0) (a := none) (n := 0) (c := 0) (ae := none) (ne := 0) (ce := 0) (HA1.out.z.there (by decide)) rfl _ _ rfl rfl rfl ?_)
    have E := HA1.out.ends (iC 0 0 0 none 0 0 none 0 0) rfl
    exact cs_ret2 Tryd.results34 (lvI E.z.r) rfl rfl rfl (RiP.no (fun y hy hb _ => HNO.out y hy hb) HGN.out E.k)
end Go.Proofs.YtlghkdkaifcliaaDoor
