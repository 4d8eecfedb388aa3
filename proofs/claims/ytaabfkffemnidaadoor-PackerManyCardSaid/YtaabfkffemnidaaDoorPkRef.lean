/-
  What the document's Check, Bytes, Decode and Find of packets answer, and the law's own bytes. The memory that was there stays.
-/
import Derived.Test.YtaabfkffemnidaaDoorPkV
namespace Go.Proofs.YtaabfkffemnidaaDoor
open Go.RowKit Gf Pk
set_option maxRecDepth 100000
/-- n bytes of one. -/
def byN (n : Nat) (b : UInt8) : List UInt8 := List.replicate n b
theorem byN_length (n : Nat) (b : UInt8) : (byN n b).length = n := List.length_replicate
theorem cf_byN {n i : Nat} (b : UInt8) (h : i < n) : cf (byN n b) i = b := by
  rw [cf_lt (by rw [byN_length]; exact h)]; simp [byN]
def byRel (wA : World) (rb n : Nat) (b : UInt8) (i : Value) (wr : World) : Prop := ∃ (k : Nat) (l : List UInt8), k ≤ n ∧ i = .int .i64 (k : Int) ∧ l.length = n ∧ (∀ j, j < k → cf l j = b) ∧ Blk rb l wr ∧ Only rb wA wr
/-- The document's Check. -/
def PkkPost (w0 : World) (p : Pkt) (e : Ending) (w' : World) : Prop := e = .returned (.int .i64 (ckP p)) ∧ Keeps w0 w'
theorem PkkPost.of {w0 W : World} {p : Pkt} {n : Int} (e : ckP p = n) (k : Keeps w0 W) : PkkPost w0 p (.returned (.int .i64 n)) W := ⟨by rw [e], k⟩
set_option maxHeartbeats 1600000 in
theorem rpkcheck_any (w0 : World) (p : Pkt) (w : World) (hk : Keeps w0 w) : Calls Tryd.prog 6 #[pkV p] w (PkkPost w0 p) := by
  have HK := Lib.hid hk
  have HC := Lib.hid (fun n W => PkkPost.of (w0 := w0) (p := p) (n := n) (W := W))
  by_cases h1 : p.pid < 0
  · have HE := Lib.hid (ckP_no (p := p) fun x => by have := x.1.1; omega)
    obtain ⟨pid, start, count, bad, body⟩ := p
    simp only at h1
    clear hk
    go_enter Tryd.func6, Tryd.ntmps6
    go_wp2
    go_ret
    exact HC.out _ _ HE.out (HK.out.alloc _)
  by_cases h2 : 8191 < p.pid
  · have HE := Lib.hid (ckP_no (p := p) fun x => by have := x.1.2; omega)
    obtain ⟨pid, start, count, bad, body⟩ := p
    simp only at h1 h2
    clear hk
    go_enter Tryd.func6, Tryd.ntmps6
    go_wp2
    go_ret
    exact HC.out _ _ HE.out (HK.out.alloc _)
  by_cases h3 : p.count < 0
  · have HE := Lib.hid (ckP_no (p := p) fun x => by have := x.2.1; omega)
    obtain ⟨pid, start, count, bad, body⟩ := p
    simp only at h1 h2 h3
    clear hk
    go_enter Tryd.func6, Tryd.ntmps6
    go_wp2
    go_ret
    exact HC.out _ _ HE.out (HK.out.alloc _)
  by_cases h4 : 15 < p.count
  · have HE := Lib.hid (ckP_no (p := p) fun x => by have := x.2.2; omega)
    obtain ⟨pid, start, count, bad, body⟩ := p
    simp only at h1 h2 h3 h4
    clear hk
    go_enter Tryd.func6, Tryd.ntmps6
    go_wp2
    go_ret
    exact HC.out _ _ HE.out (HK.out.alloc _)
  have hr : okP p := ⟨⟨by omega, by omega⟩, by omega, by omega⟩
  by_cases h5 : 184 < p.body.size
  · have HE := Lib.hid (ckP_full hr h5)
    obtain ⟨pid, start, count, bad, body⟩ := p
    simp only at h1 h2 h3 h4 h5
    have h5i : (184 : Int) < (body.size : Int) := by omega
    clear hk hr
    go_enter Tryd.func6, Tryd.ntmps6
    go_wp2
    go_ret
    exact HC.out _ _ HE.out (HK.out.alloc _)
  · have HE := Lib.hid (ckP_ok hr h5)
    obtain ⟨pid, start, count, bad, body⟩ := p
    simp only at h1 h2 h3 h4 h5
    have h5i : ¬ (184 : Int) < (body.size : Int) := by omega
    clear hk hr
    go_enter Tryd.func6, Tryd.ntmps6
    go_wp2
    go_ret
    exact HC.out _ _ HE.out (HK.out.alloc _)
-- BYTES
theorem own_lit8 (w : World) (base : Nat) (l : List UInt8) (cs : Array Value) (hc : (l.map B).toArray = cs) {n : Nat} (hn : l.length = n) (h : n ≤ 1000000) (hb : base ≤ w.heap.size) {H : Nat} (hH : w.heap.size = H) : Own (w.alloc (.cells cs 5)) base (.slice (some ⟨H, 0, none⟩) n n) l := by
  subst hH; subst hc; subst hn
  unfold Own
  have e : l.map B = (l.map B).toArray.toList := rfl
  rw [e]
  exact World.ownsRow_lit w _ l.length hb (by unfold maxLen; omega) (by simp)
/-- 'v = append(v, y)', y a constant or a byte. -/
theorem wp_push8v {ops : Array Oper} {rest : List Oper} {o : Oper} {a : Act} {Q : Exit → Act → World → Prop} {wr : World} (hgd : o.guard = none) (s x : Operand)
    (ho : o.op = .call { callee := .builtin .append, args := #[s, x], argTypes := #[35, 35] }) {w0 : World} {v : Value} {l : List UInt8} (y : UInt8) {yv : Value} (hyv : yv = B y) (H : Nat) (hH : wr.heap.size = H) (hown : Own wr w0.heap.size v l)
    (hs : a.eval s = v) (hx : a.eval x = .slice (some ⟨H, 0, none⟩) 1 1) (hl : l.length ≤ 1000000000) (hk : Keeps w0 wr)
    (h : ∀ v' w', Own w' w0.heap.size v' (l ++ [y]) → Keeps w0 w' → wpList Tryd.prog ops Q rest (a.put o.dst v') w') :
    wpList Tryd.prog ops Q (o :: rest) a (wr.alloc (.cells #[yv] 5)) := by
  subst hyv
  subst hH
  exact wp_push8 hgd s x ho y hown hs hx hl hk h
theorem fil_next (n k : Nat) (h : k < n) : (fil n).take k ++ [if k = 0 then 0 else 255] = (fil n).take (k + 1) := by
  unfold fil
  rw [List.take_add_one, List.getElem?_map, List.getElem?_range h]; rfl
def pkbRel (w0 : World) (L : List UInt8) (n : Nat) (v i : Value) (wr : World) : Prop := ∃ k : Nat, k ≤ n ∧ i = .int .i64 (k : Int) ∧ Own wr w0.heap.size v (L ++ (fil n).take k) ∧ Keeps w0 wr
set_option maxHeartbeats 1600000 in
theorem rpkbytes001 (w0 : World) (pid count : Int) (body : ByteArray) (w : World) (hk : Keeps w0 w) (hp : 0 ≤ pid ∧ pid ≤ 8191) (hc : 0 ≤ count ∧ count ≤ 15) (hz : body.size = 184) :
    Calls Tryd.prog 8 #[pkV ⟨pid, false, count, false, body⟩] w fun e w' => e = .returned (.string (st (bts ⟨pid, false, count, false, body⟩))) ∧ Keeps w0 w' := by
  obtain ⟨q, hq⟩ : ∃ q, pid / 256 = q := ⟨_, rfl⟩
  obtain ⟨r, hr⟩ : ∃ r, pid % 256 = r := ⟨_, rfl⟩
  have ed : pid.tdiv 256 = q := by rw [Int.tdiv_eq_ediv_of_nonneg hp.1]; exact hq
  have em : pid.tmod 256 = r := by rw [Int.tmod_eq_emod_of_nonneg hp.1]; exact hr
  obtain ⟨x1, hx1⟩ : ∃ x, UInt8.ofNat (pid.toNat / 256 + 128 * 0 + 64 * 0) = x := ⟨_, rfl⟩
  obtain ⟨x2, hx2⟩ : ∃ x, UInt8.ofNat (pid.toNat % 256) = x := ⟨_, rfl⟩
  obtain ⟨x3, hx3⟩ : ∃ x, UInt8.ofNat (16 * 1 + count.toNat) = x := ⟨_, rfl⟩
  have e1 : q = (x1.toNat : Int) := by
    rw [← hx1, toNat_of (show pid.toNat / 256 + 128 * 0 + 64 * 0 < 256 by omega)]
    show _ = ((pid.toNat / 256 + 128 * 0 + 64 * 0 : Nat) : Int)
    omega
  have e2 : r = (x2.toNat : Int) := by rw [← hx2, toNat_of (by omega)]; omega
  have e3 : 16 + count = (x3.toNat : Int) := by rw [← hx3, toNat_of (by omega)]; omega
  have hhd : hd ⟨pid, false, count, false, body⟩ = [71, x1, x2, x3] := by
    unfold hd
    show [71, UInt8.ofNat (pid.toNat / 256 + 128 * 0 + 64 * 0), UInt8.ofNat (pid.toNat % 256), UInt8.ofNat (16 * how body.size + count.toNat)] = _
    rw [hx1, hx2, show how body.size = 1 by unfold how; rw [if_pos hz], hx3]
  have HE := Lib.hid (show st [71, x1, x2, x3] ++ body = st (bts ⟨pid, false, count, false, body⟩) by
    unfold bts; rw [hhd, show adp body.size = [] by unfold adp; rw [if_pos hz]]
    rw [List.nil_append, ← st_append, st_ls])
  rw [← HE.out]
  obtain ⟨hp1, hp2⟩ := hp
  obtain ⟨hc1, hc2⟩ := hc
  have hq1 : 0 ≤ q := by omega
  have hq2 : q ≤ 31 := by omega
  have hr1 : 0 ≤ r := by omega
  have hr2 : r ≤ 255 := by omega
  have wr1 := wrapI (a := q) (by omega) (by omega)
  have wr2 := wrapI (a := q + 128) (by omega) (by omega)
  have wr3 := wrapI (a := q + 64) (by omega) (by omega)
  have wr4 := wrapI (a := q + 128 + 64) (by omega) (by omega)
  have wr5 := wrapI (a := r) (by omega) (by omega)
  have wr6 := wrapI (a := 16 + count) (by omega) (by omega)
  have HK := Lib.hid hk
  obtain ⟨b, hb⟩ : ∃ b, w.heap.size = b := ⟨_, rfl⟩
  have hbs := Below.size hk
  rw [hb] at hbs
  obtain ⟨wA, hA⟩ : ∃ wX, w.alloc (.cells #[.int .i64 pid, .bool false, .int .i64 count, .bool false, .string body] 29) = wX := ⟨_, rfl⟩
  have HA := Lib.hid (show CsAt b (pkC ⟨pid, false, count, false, body⟩) wA by rw [← hb, ← hA]; exact CsAt.made w #[.int .i64 pid, .bool false, .int .i64 count, .bool false, .string body] _ (by simp))
  have HKA := Lib.hid (show Keeps w0 wA by rw [← hA]; exact hk.alloc _)
  have hsA : wA.heap.size = b + 1 := by rw [← hA, World.size_alloc, hb]
  have HO := Lib.hid (own_lit8 (n := 4) wA wA.heap.size [71, x1, x2, x3] #[.int .u8 71, .int .u8 (q), .int .u8 r, .int .u8 (16 + count)] (by rw [e1, e2, e3]; rfl) rfl (by decide) (Nat.le_refl _) hsA)
  have c0 := HA.out.cell 0 rfl
  have c1 := HA.out.cell 1 rfl
  have c2 := HA.out.cell 2 rfl
  have c3 := HA.out.cell 3 rfl
  have c4 := HA.out.cell 4 rfl
  clear hk hx1 hx2 hx3 hhd hq hr e1 e2 e3
  have hzI : (body.size : Int) = 184 := by omega
  have hb0 : (body.toList == []) = false := by
    rw [beq_eq_false_iff_ne, ls_toList]; intro e
    have := ls_size body; rw [e, hz] at this
    simp at this
  have hcv := HO.out.text
  have hs4 : (st [71, x1, x2, x3]).size = 4 := rfl
  go_enter Tryd.func8, Tryd.ntmps8
  go_wp2
  go_ret
  exact ⟨rfl, HKA.out.alloc _⟩
set_option maxHeartbeats 1600000 in
theorem rpkbytes002 (w0 : World) (pid count : Int) (body : ByteArray) (w : World) (hk : Keeps w0 w) (hp : 0 ≤ pid ∧ pid ≤ 8191) (hc : 0 ≤ count ∧ count ≤ 15) (hz : body.size = 0) :
    Calls Tryd.prog 8 #[pkV ⟨pid, false, count, false, body⟩] w fun e w' => e = .returned (.string (st (bts ⟨pid, false, count, false, body⟩))) ∧ Keeps w0 w' := by
  obtain ⟨q, hq⟩ : ∃ q, pid / 256 = q := ⟨_, rfl⟩
  obtain ⟨r, hr⟩ : ∃ r, pid % 256 = r := ⟨_, rfl⟩
  have ed : pid.tdiv 256 = q := by rw [Int.tdiv_eq_ediv_of_nonneg hp.1]; exact hq
  have em : pid.tmod 256 = r := by rw [Int.tmod_eq_emod_of_nonneg hp.1]; exact hr
  obtain ⟨x1, hx1⟩ : ∃ x, UInt8.ofNat (pid.toNat / 256 + 128 * 0 + 64 * 0) = x := ⟨_, rfl⟩
  obtain ⟨x2, hx2⟩ : ∃ x, UInt8.ofNat (pid.toNat % 256) = x := ⟨_, rfl⟩
  obtain ⟨x3, hx3⟩ : ∃ x, UInt8.ofNat (16 * 2 + count.toNat) = x := ⟨_, rfl⟩
  have e1 : q = (x1.toNat : Int) := by
    rw [← hx1, toNat_of (show pid.toNat / 256 + 128 * 0 + 64 * 0 < 256 by omega)]
    show _ = ((pid.toNat / 256 + 128 * 0 + 64 * 0 : Nat) : Int)
    omega
  have e2 : r = (x2.toNat : Int) := by rw [← hx2, toNat_of (by omega)]; omega
  have e3 : 32 + count = (x3.toNat : Int) := by rw [← hx3, toNat_of (by omega)]; omega
  have hhd : hd ⟨pid, false, count, false, body⟩ = [71, x1, x2, x3] := by
    unfold hd
    show [71, UInt8.ofNat (pid.toNat / 256 + 128 * 0 + 64 * 0), UInt8.ofNat (pid.toNat % 256), UInt8.ofNat (16 * how body.size + count.toNat)] = _
    rw [hx1, hx2, show how body.size = 2 by unfold how; rw [if_neg (by omega), if_pos hz], hx3]
  obtain ⟨N, hN⟩ : ∃ N, 183 - body.size = N := ⟨_, rfl⟩
  obtain ⟨x4, hx4⟩ : ∃ x, UInt8.ofNat N = x := ⟨_, rfl⟩
  have e4 : (N : Int) = (x4.toNat : Int) := by rw [← hx4, toNat_of (by omega)]
  have e5 : (183 : Int) - (body.size : Int) = (N : Int) := by omega
  obtain ⟨L, hL⟩ : ∃ L, [71, x1, x2, x3] ++ [x4] = L := ⟨_, rfl⟩
  have HE := Lib.hid (show st (L ++ fil N) ++ body = st (bts ⟨pid, false, count, false, body⟩) by
    rw [← hL]
    unfold bts; rw [hhd, show adp body.size = x4 :: fil N by unfold adp; rw [if_neg (by omega), hN, hx4]]
    rw [← st_ls body, st_append, ls_st]; simp)
  have hNb : N ≤ 183 := by omega
  have hb0 : body.toList = [] := by rw [ls_toList]; exact List.length_eq_zero_iff.1 (by rw [← ls_size]; exact hz)
  rw [← HE.out]
  obtain ⟨hp1, hp2⟩ := hp
  obtain ⟨hc1, hc2⟩ := hc
  have hq1 : 0 ≤ q := by omega
  have hq2 : q ≤ 31 := by omega
  have hr1 : 0 ≤ r := by omega
  have hr2 : r ≤ 255 := by omega
  have HE4 := Lib.hid e4
  have wr1 := wrapI (a := q) (by omega) (by omega)
  have wr2 := wrapI (a := q + 128) (by omega) (by omega)
  have wr3 := wrapI (a := q + 64) (by omega) (by omega)
  have wr4 := wrapI (a := q + 128 + 64) (by omega) (by omega)
  have wr5 := wrapI (a := r) (by omega) (by omega)
  have wr6 := wrapI (a := 32 + count) (by omega) (by omega)
  have HK := Lib.hid hk
  obtain ⟨b, hb⟩ : ∃ b, w.heap.size = b := ⟨_, rfl⟩
  have hbs := Below.size hk
  rw [hb] at hbs
  obtain ⟨wA, hA⟩ : ∃ wX, w.alloc (.cells #[.int .i64 pid, .bool false, .int .i64 count, .bool false, .string body] 29) = wX := ⟨_, rfl⟩
  have HA := Lib.hid (show CsAt b (pkC ⟨pid, false, count, false, body⟩) wA by rw [← hb, ← hA]; exact CsAt.made w #[.int .i64 pid, .bool false, .int .i64 count, .bool false, .string body] _ (by simp))
  have HKA := Lib.hid (show Keeps w0 wA by rw [← hA]; exact hk.alloc _)
  have hsA : wA.heap.size = b + 1 := by rw [← hA, World.size_alloc, hb]
  have HO := Lib.hid (own_lit8 (n := 4) wA wA.heap.size [71, x1, x2, x3] #[.int .u8 71, .int .u8 (q), .int .u8 r, .int .u8 (32 + count)] (by rw [e1, e2, e3]; rfl) rfl (by decide) (Nat.le_refl _) hsA)
  have c0 := HA.out.cell 0 rfl
  have c1 := HA.out.cell 1 rfl
  have c2 := HA.out.cell 2 rfl
  have c3 := HA.out.cell 3 rfl
  have c4 := HA.out.cell 4 rfl
  clear hk hx1 hx2 hx3 hhd hq hr e1 e2 e3 e4 hx4
  have hz4 : ¬ ((body.size : Int) = 184) := by omega
  have hL5 : L.length = 5 := by rw [← hL]; rfl
  have HL := Lib.hid hL
  clear hL hz hN
  go_enter Tryd.func8, Tryd.ntmps8
  go_wp2_with (at_builtin; refine wp_push8v rfl _ _ rfl x4 (by unfold B; rw [HE4.out]) (b + 1 + 1) (by rw [World.size_alloc, hsA]) HO.out rfl rfl (by show 4 ≤ 1000000000; decide) ((Keeps.refl wA).alloc _) ?_; intro v2 w2 o2 k2; rw [HL.out] at o2; have HO2 := Lib.hid o2; have HK2 := Lib.hid k2; clear o2 k2)
  go_loopw [5, 7] (fun v i wr => pkbRel wA L N v i wr) (fun _ i _ => N - (intOf i).toNat)
  case atStart => exact ⟨0, by omega, rfl, by rw [List.take_zero, List.append_nil]; exact HO2.out, HK2.out⟩
  case round =>
    obtain ⟨k, hkN, rfl, hown, hkp⟩ := hrel
    by_cases hlt : k < N
    · have HF := Lib.hid (fil_next N k hlt)
      have hlen : (L ++ (fil N).take k).length ≤ 1000000000 := by rw [List.length_append, List.length_take, hL5]; omega
      have HX := Lib.hid (show ∀ y, y = (if k = 0 then (0 : UInt8) else 255) → L ++ (fil N).take k ++ [y] = L ++ (fil N).take (k + 1) by rintro _ rfl; rw [List.append_assoc, HF.out])
      obtain ⟨M, hM⟩ : ∃ M, L ++ (fil N).take k = M := ⟨_, rfl⟩
      rw [hM] at hlen HX hown
      have HOW := Lib.hid hown
      have HKP := Lib.hid hkp
      clear hM hown hkp HF c0 c1 c2 c3 c4
      by_cases h0 : k = 0
      · subst h0
        go_wp2_with (at_builtin; refine wp_push8v rfl _ _ rfl 0 rfl _ rfl HOW.out rfl rfl hlen HKP.out ?_; intro v3 w3 o3 k3; have HO3 := Lib.hid o3; have HK3 := Lib.hid k3; clear o3 k3)
        go_roundw
        case rel => exact ⟨1, by omega, rfl, by rw [← HX.out 0 rfl]; exact HO3.out, HK3.out⟩
        case measure => simp [intOf]; omega
      · have h0I : ¬ ((k : Int) = 0) := by omega
        go_wp2_with (at_builtin; refine wp_push8v rfl _ _ rfl 255 rfl _ rfl HOW.out rfl rfl hlen HKP.out ?_; intro v3 w3 o3 k3; have HO3 := Lib.hid o3; have HK3 := Lib.hid k3; clear o3 k3)
        go_roundw
        case rel => exact ⟨k + 1, by omega, by go_num, by rw [← HX.out 255 (by rw [if_neg h0])]; exact HO3.out, HK3.out⟩
        case measure => simp [intOf]; omega
    · have hE : (fil N).take k = fil N := List.take_of_length_le (by rw [fil_length]; omega)
      rw [hE] at hown
      have hcv := hown.text
      clear c0 c1 c2 c3 c4
      have c4 := (HA.out.keeps hkp).cell 4 rfl
      have hsz : (st (L ++ fil N)).size = 5 + N := by rw [st_size, List.length_append, fil_length, hL5]
      have HKP := Lib.hid hkp
      clear hown hkp hE
      go_wp2
      go_ret
      exact ⟨rfl, HKA.out.trans HKP.out⟩
set_option maxHeartbeats 1600000 in
theorem rpkbytes003 (w0 : World) (pid count : Int) (body : ByteArray) (w : World) (hk : Keeps w0 w) (hp : 0 ≤ pid ∧ pid ≤ 8191) (hc : 0 ≤ count ∧ count ≤ 15) (hz : 0 < body.size ∧ body.size < 184) :
    Calls Tryd.prog 8 #[pkV ⟨pid, false, count, false, body⟩] w fun e w' => e = .returned (.string (st (bts ⟨pid, false, count, false, body⟩))) ∧ Keeps w0 w' := by
  obtain ⟨q, hq⟩ : ∃ q, pid / 256 = q := ⟨_, rfl⟩
  obtain ⟨r, hr⟩ : ∃ r, pid % 256 = r := ⟨_, rfl⟩
  have ed : pid.tdiv 256 = q := by rw [Int.tdiv_eq_ediv_of_nonneg hp.1]; exact hq
  have em : pid.tmod 256 = r := by rw [Int.tmod_eq_emod_of_nonneg hp.1]; exact hr
  obtain ⟨x1, hx1⟩ : ∃ x, UInt8.ofNat (pid.toNat / 256 + 128 * 0 + 64 * 0) = x := ⟨_, rfl⟩
  obtain ⟨x2, hx2⟩ : ∃ x, UInt8.ofNat (pid.toNat % 256) = x := ⟨_, rfl⟩
  obtain ⟨x3, hx3⟩ : ∃ x, UInt8.ofNat (16 * 3 + count.toNat) = x := ⟨_, rfl⟩
  have e1 : q = (x1.toNat : Int) := by
    rw [← hx1, toNat_of (show pid.toNat / 256 + 128 * 0 + 64 * 0 < 256 by omega)]
    show _ = ((pid.toNat / 256 + 128 * 0 + 64 * 0 : Nat) : Int)
    omega
  have e2 : r = (x2.toNat : Int) := by rw [← hx2, toNat_of (by omega)]; omega
  have e3 : 48 + count = (x3.toNat : Int) := by rw [← hx3, toNat_of (by omega)]; omega
  have hhd : hd ⟨pid, false, count, false, body⟩ = [71, x1, x2, x3] := by
    unfold hd
    show [71, UInt8.ofNat (pid.toNat / 256 + 128 * 0 + 64 * 0), UInt8.ofNat (pid.toNat % 256), UInt8.ofNat (16 * how body.size + count.toNat)] = _
    rw [hx1, hx2, show how body.size = 3 by unfold how; rw [if_neg (by omega), if_neg (by omega)], hx3]
  obtain ⟨N, hN⟩ : ∃ N, 183 - body.size = N := ⟨_, rfl⟩
  obtain ⟨x4, hx4⟩ : ∃ x, UInt8.ofNat N = x := ⟨_, rfl⟩
  have e4 : (N : Int) = (x4.toNat : Int) := by rw [← hx4, toNat_of (by omega)]
  have e5 : (183 : Int) - (body.size : Int) = (N : Int) := by omega
  obtain ⟨L, hL⟩ : ∃ L, [71, x1, x2, x3] ++ [x4] = L := ⟨_, rfl⟩
  have HE := Lib.hid (show st (L ++ fil N) ++ body = st (bts ⟨pid, false, count, false, body⟩) by
    rw [← hL]
    unfold bts; rw [hhd, show adp body.size = x4 :: fil N by unfold adp; rw [if_neg (by omega), hN, hx4]]
    rw [← st_ls body, st_append, ls_st]; simp)
  have hNb : N ≤ 183 := by omega
  have hb0 : (body.toList == []) = false := by
    rw [beq_eq_false_iff_ne, ls_toList]; intro e
    have h3 := ls_size body; rw [e] at h3
    have h4 := hz.1
    rw [h3] at h4
    exact absurd h4 (by decide)
  rw [← HE.out]
  obtain ⟨hp1, hp2⟩ := hp
  obtain ⟨hc1, hc2⟩ := hc
  have hq1 : 0 ≤ q := by omega
  have hq2 : q ≤ 31 := by omega
  have hr1 : 0 ≤ r := by omega
  have hr2 : r ≤ 255 := by omega
  have HE4 := Lib.hid e4
  have wr1 := wrapI (a := q) (by omega) (by omega)
  have wr2 := wrapI (a := q + 128) (by omega) (by omega)
  have wr3 := wrapI (a := q + 64) (by omega) (by omega)
  have wr4 := wrapI (a := q + 128 + 64) (by omega) (by omega)
  have wr5 := wrapI (a := r) (by omega) (by omega)
  have wr6 := wrapI (a := 48 + count) (by omega) (by omega)
  have HK := Lib.hid hk
  obtain ⟨b, hb⟩ : ∃ b, w.heap.size = b := ⟨_, rfl⟩
  have hbs := Below.size hk
  rw [hb] at hbs
  obtain ⟨wA, hA⟩ : ∃ wX, w.alloc (.cells #[.int .i64 pid, .bool false, .int .i64 count, .bool false, .string body] 29) = wX := ⟨_, rfl⟩
  have HA := Lib.hid (show CsAt b (pkC ⟨pid, false, count, false, body⟩) wA by rw [← hb, ← hA]; exact CsAt.made w #[.int .i64 pid, .bool false, .int .i64 count, .bool false, .string body] _ (by simp))
  have HKA := Lib.hid (show Keeps w0 wA by rw [← hA]; exact hk.alloc _)
  have hsA : wA.heap.size = b + 1 := by rw [← hA, World.size_alloc, hb]
  have HO := Lib.hid (own_lit8 (n := 4) wA wA.heap.size [71, x1, x2, x3] #[.int .u8 71, .int .u8 (q), .int .u8 r, .int .u8 (48 + count)] (by rw [e1, e2, e3]; rfl) rfl (by decide) (Nat.le_refl _) hsA)
  have c0 := HA.out.cell 0 rfl
  have c1 := HA.out.cell 1 rfl
  have c2 := HA.out.cell 2 rfl
  have c3 := HA.out.cell 3 rfl
  have c4 := HA.out.cell 4 rfl
  clear hk hx1 hx2 hx3 hhd hq hr e1 e2 e3 e4 hx4
  have hz4 : ¬ ((body.size : Int) = 184) := by omega
  have hL5 : L.length = 5 := by rw [← hL]; rfl
  have HL := Lib.hid hL
  clear hL hz hN
  go_enter Tryd.func8, Tryd.ntmps8
  go_wp2_with (at_builtin; refine wp_push8v rfl _ _ rfl x4 (by unfold B; rw [HE4.out]) (b + 1 + 1) (by rw [World.size_alloc, hsA]) HO.out rfl rfl (by show 4 ≤ 1000000000; decide) ((Keeps.refl wA).alloc _) ?_; intro v2 w2 o2 k2; rw [HL.out] at o2; have HO2 := Lib.hid o2; have HK2 := Lib.hid k2; clear o2 k2)
  go_loopw [5, 7] (fun v i wr => pkbRel wA L N v i wr) (fun _ i _ => N - (intOf i).toNat)
  case atStart => exact ⟨0, by omega, rfl, by rw [List.take_zero, List.append_nil]; exact HO2.out, HK2.out⟩
  case round =>
    obtain ⟨k, hkN, rfl, hown, hkp⟩ := hrel
    by_cases hlt : k < N
    · have HF := Lib.hid (fil_next N k hlt)
      have hlen : (L ++ (fil N).take k).length ≤ 1000000000 := by rw [List.length_append, List.length_take, hL5]; omega
      have HX := Lib.hid (show ∀ y, y = (if k = 0 then (0 : UInt8) else 255) → L ++ (fil N).take k ++ [y] = L ++ (fil N).take (k + 1) by rintro _ rfl; rw [List.append_assoc, HF.out])
      obtain ⟨M, hM⟩ : ∃ M, L ++ (fil N).take k = M := ⟨_, rfl⟩
      rw [hM] at hlen HX hown
      have HOW := Lib.hid hown
      have HKP := Lib.hid hkp
      clear hM hown hkp HF c0 c1 c2 c3 c4
      by_cases h0 : k = 0
      · subst h0
        go_wp2_with (at_builtin; refine wp_push8v rfl _ _ rfl 0 rfl _ rfl HOW.out rfl rfl hlen HKP.out ?_; intro v3 w3 o3 k3; have HO3 := Lib.hid o3; have HK3 := Lib.hid k3; clear o3 k3)
        go_roundw
        case rel => exact ⟨1, by omega, rfl, by rw [← HX.out 0 rfl]; exact HO3.out, HK3.out⟩
        case measure => simp [intOf]; omega
      · have h0I : ¬ ((k : Int) = 0) := by omega
        go_wp2_with (at_builtin; refine wp_push8v rfl _ _ rfl 255 rfl _ rfl HOW.out rfl rfl hlen HKP.out ?_; intro v3 w3 o3 k3; have HO3 := Lib.hid o3; have HK3 := Lib.hid k3; clear o3 k3)
        go_roundw
        case rel => exact ⟨k + 1, by omega, by go_num, by rw [← HX.out 255 (by rw [if_neg h0])]; exact HO3.out, HK3.out⟩
        case measure => simp [intOf]; omega
    · have hE : (fil N).take k = fil N := List.take_of_length_le (by rw [fil_length]; omega)
      rw [hE] at hown
      have hcv := hown.text
      clear c0 c1 c2 c3 c4
      have c4 := (HA.out.keeps hkp).cell 4 rfl
      have hsz : (st (L ++ fil N)).size = 5 + N := by rw [st_size, List.length_append, fil_length, hL5]
      have HKP := Lib.hid hkp
      clear hown hkp hE
      go_wp2
      go_ret
      exact ⟨rfl, HKA.out.trans HKP.out⟩
set_option maxHeartbeats 1600000 in
theorem rpkbytes011 (w0 : World) (pid count : Int) (body : ByteArray) (w : World) (hk : Keeps w0 w) (hp : 0 ≤ pid ∧ pid ≤ 8191) (hc : 0 ≤ count ∧ count ≤ 15) (hz : body.size = 184) :
    Calls Tryd.prog 8 #[pkV ⟨pid, true, count, false, body⟩] w fun e w' => e = .returned (.string (st (bts ⟨pid, true, count, false, body⟩))) ∧ Keeps w0 w' := by
  obtain ⟨q, hq⟩ : ∃ q, pid / 256 = q := ⟨_, rfl⟩
  obtain ⟨r, hr⟩ : ∃ r, pid % 256 = r := ⟨_, rfl⟩
  have ed : pid.tdiv 256 = q := by rw [Int.tdiv_eq_ediv_of_nonneg hp.1]; exact hq
  have em : pid.tmod 256 = r := by rw [Int.tmod_eq_emod_of_nonneg hp.1]; exact hr
  obtain ⟨x1, hx1⟩ : ∃ x, UInt8.ofNat (pid.toNat / 256 + 128 * 0 + 64 * 1) = x := ⟨_, rfl⟩
  obtain ⟨x2, hx2⟩ : ∃ x, UInt8.ofNat (pid.toNat % 256) = x := ⟨_, rfl⟩
  obtain ⟨x3, hx3⟩ : ∃ x, UInt8.ofNat (16 * 1 + count.toNat) = x := ⟨_, rfl⟩
  have e1 : q + 64 = (x1.toNat : Int) := by
    rw [← hx1, toNat_of (show pid.toNat / 256 + 128 * 0 + 64 * 1 < 256 by omega)]
    show _ = ((pid.toNat / 256 + 128 * 0 + 64 * 1 : Nat) : Int)
    omega
  have e2 : r = (x2.toNat : Int) := by rw [← hx2, toNat_of (by omega)]; omega
  have e3 : 16 + count = (x3.toNat : Int) := by rw [← hx3, toNat_of (by omega)]; omega
  have hhd : hd ⟨pid, true, count, false, body⟩ = [71, x1, x2, x3] := by
    unfold hd
    show [71, UInt8.ofNat (pid.toNat / 256 + 128 * 0 + 64 * 1), UInt8.ofNat (pid.toNat % 256), UInt8.ofNat (16 * how body.size + count.toNat)] = _
    rw [hx1, hx2, show how body.size = 1 by unfold how; rw [if_pos hz], hx3]
  have HE := Lib.hid (show st [71, x1, x2, x3] ++ body = st (bts ⟨pid, true, count, false, body⟩) by
    unfold bts; rw [hhd, show adp body.size = [] by unfold adp; rw [if_pos hz]]
    rw [List.nil_append, ← st_append, st_ls])
  rw [← HE.out]
  obtain ⟨hp1, hp2⟩ := hp
  obtain ⟨hc1, hc2⟩ := hc
  have hq1 : 0 ≤ q := by omega
  have hq2 : q ≤ 31 := by omega
  have hr1 : 0 ≤ r := by omega
  have hr2 : r ≤ 255 := by omega
  have wr1 := wrapI (a := q) (by omega) (by omega)
  have wr2 := wrapI (a := q + 128) (by omega) (by omega)
  have wr3 := wrapI (a := q + 64) (by omega) (by omega)
  have wr4 := wrapI (a := q + 128 + 64) (by omega) (by omega)
  have wr5 := wrapI (a := r) (by omega) (by omega)
  have wr6 := wrapI (a := 16 + count) (by omega) (by omega)
  have HK := Lib.hid hk
  obtain ⟨b, hb⟩ : ∃ b, w.heap.size = b := ⟨_, rfl⟩
  have hbs := Below.size hk
  rw [hb] at hbs
  obtain ⟨wA, hA⟩ : ∃ wX, w.alloc (.cells #[.int .i64 pid, .bool true, .int .i64 count, .bool false, .string body] 29) = wX := ⟨_, rfl⟩
  have HA := Lib.hid (show CsAt b (pkC ⟨pid, true, count, false, body⟩) wA by rw [← hb, ← hA]; exact CsAt.made w #[.int .i64 pid, .bool true, .int .i64 count, .bool false, .string body] _ (by simp))
  have HKA := Lib.hid (show Keeps w0 wA by rw [← hA]; exact hk.alloc _)
  have hsA : wA.heap.size = b + 1 := by rw [← hA, World.size_alloc, hb]
  have HO := Lib.hid (own_lit8 (n := 4) wA wA.heap.size [71, x1, x2, x3] #[.int .u8 71, .int .u8 (q + 64), .int .u8 r, .int .u8 (16 + count)] (by rw [e1, e2, e3]; rfl) rfl (by decide) (Nat.le_refl _) hsA)
  have c0 := HA.out.cell 0 rfl
  have c1 := HA.out.cell 1 rfl
  have c2 := HA.out.cell 2 rfl
  have c3 := HA.out.cell 3 rfl
  have c4 := HA.out.cell 4 rfl
  clear hk hx1 hx2 hx3 hhd hq hr e1 e2 e3
  have hzI : (body.size : Int) = 184 := by omega
  have hb0 : (body.toList == []) = false := by
    rw [beq_eq_false_iff_ne, ls_toList]; intro e
    have := ls_size body; rw [e, hz] at this
    simp at this
  have hcv := HO.out.text
  have hs4 : (st [71, x1, x2, x3]).size = 4 := rfl
  go_enter Tryd.func8, Tryd.ntmps8
  go_wp2
  go_ret
  exact ⟨rfl, HKA.out.alloc _⟩
set_option maxHeartbeats 1600000 in
theorem rpkbytes012 (w0 : World) (pid count : Int) (body : ByteArray) (w : World) (hk : Keeps w0 w) (hp : 0 ≤ pid ∧ pid ≤ 8191) (hc : 0 ≤ count ∧ count ≤ 15) (hz : body.size = 0) :
    Calls Tryd.prog 8 #[pkV ⟨pid, true, count, false, body⟩] w fun e w' => e = .returned (.string (st (bts ⟨pid, true, count, false, body⟩))) ∧ Keeps w0 w' := by
  obtain ⟨q, hq⟩ : ∃ q, pid / 256 = q := ⟨_, rfl⟩
  obtain ⟨r, hr⟩ : ∃ r, pid % 256 = r := ⟨_, rfl⟩
  have ed : pid.tdiv 256 = q := by rw [Int.tdiv_eq_ediv_of_nonneg hp.1]; exact hq
  have em : pid.tmod 256 = r := by rw [Int.tmod_eq_emod_of_nonneg hp.1]; exact hr
  obtain ⟨x1, hx1⟩ : ∃ x, UInt8.ofNat (pid.toNat / 256 + 128 * 0 + 64 * 1) = x := ⟨_, rfl⟩
  obtain ⟨x2, hx2⟩ : ∃ x, UInt8.ofNat (pid.toNat % 256) = x := ⟨_, rfl⟩
  obtain ⟨x3, hx3⟩ : ∃ x, UInt8.ofNat (16 * 2 + count.toNat) = x := ⟨_, rfl⟩
  have e1 : q + 64 = (x1.toNat : Int) := by
    rw [← hx1, toNat_of (show pid.toNat / 256 + 128 * 0 + 64 * 1 < 256 by omega)]
    show _ = ((pid.toNat / 256 + 128 * 0 + 64 * 1 : Nat) : Int)
    omega
  have e2 : r = (x2.toNat : Int) := by rw [← hx2, toNat_of (by omega)]; omega
  have e3 : 32 + count = (x3.toNat : Int) := by rw [← hx3, toNat_of (by omega)]; omega
  have hhd : hd ⟨pid, true, count, false, body⟩ = [71, x1, x2, x3] := by
    unfold hd
    show [71, UInt8.ofNat (pid.toNat / 256 + 128 * 0 + 64 * 1), UInt8.ofNat (pid.toNat % 256), UInt8.ofNat (16 * how body.size + count.toNat)] = _
    rw [hx1, hx2, show how body.size = 2 by unfold how; rw [if_neg (by omega), if_pos hz], hx3]
  obtain ⟨N, hN⟩ : ∃ N, 183 - body.size = N := ⟨_, rfl⟩
  obtain ⟨x4, hx4⟩ : ∃ x, UInt8.ofNat N = x := ⟨_, rfl⟩
  have e4 : (N : Int) = (x4.toNat : Int) := by rw [← hx4, toNat_of (by omega)]
  have e5 : (183 : Int) - (body.size : Int) = (N : Int) := by omega
  obtain ⟨L, hL⟩ : ∃ L, [71, x1, x2, x3] ++ [x4] = L := ⟨_, rfl⟩
  have HE := Lib.hid (show st (L ++ fil N) ++ body = st (bts ⟨pid, true, count, false, body⟩) by
    rw [← hL]
    unfold bts; rw [hhd, show adp body.size = x4 :: fil N by unfold adp; rw [if_neg (by omega), hN, hx4]]
    rw [← st_ls body, st_append, ls_st]; simp)
  have hNb : N ≤ 183 := by omega
  have hb0 : body.toList = [] := by rw [ls_toList]; exact List.length_eq_zero_iff.1 (by rw [← ls_size]; exact hz)
  rw [← HE.out]
  obtain ⟨hp1, hp2⟩ := hp
  obtain ⟨hc1, hc2⟩ := hc
  have hq1 : 0 ≤ q := by omega
  have hq2 : q ≤ 31 := by omega
  have hr1 : 0 ≤ r := by omega
  have hr2 : r ≤ 255 := by omega
  have HE4 := Lib.hid e4
  have wr1 := wrapI (a := q) (by omega) (by omega)
  have wr2 := wrapI (a := q + 128) (by omega) (by omega)
  have wr3 := wrapI (a := q + 64) (by omega) (by omega)
  have wr4 := wrapI (a := q + 128 + 64) (by omega) (by omega)
  have wr5 := wrapI (a := r) (by omega) (by omega)
  have wr6 := wrapI (a := 32 + count) (by omega) (by omega)
  have HK := Lib.hid hk
  obtain ⟨b, hb⟩ : ∃ b, w.heap.size = b := ⟨_, rfl⟩
  have hbs := Below.size hk
  rw [hb] at hbs
  obtain ⟨wA, hA⟩ : ∃ wX, w.alloc (.cells #[.int .i64 pid, .bool true, .int .i64 count, .bool false, .string body] 29) = wX := ⟨_, rfl⟩
  have HA := Lib.hid (show CsAt b (pkC ⟨pid, true, count, false, body⟩) wA by rw [← hb, ← hA]; exact CsAt.made w #[.int .i64 pid, .bool true, .int .i64 count, .bool false, .string body] _ (by simp))
  have HKA := Lib.hid (show Keeps w0 wA by rw [← hA]; exact hk.alloc _)
  have hsA : wA.heap.size = b + 1 := by rw [← hA, World.size_alloc, hb]
  have HO := Lib.hid (own_lit8 (n := 4) wA wA.heap.size [71, x1, x2, x3] #[.int .u8 71, .int .u8 (q + 64), .int .u8 r, .int .u8 (32 + count)] (by rw [e1, e2, e3]; rfl) rfl (by decide) (Nat.le_refl _) hsA)
  have c0 := HA.out.cell 0 rfl
  have c1 := HA.out.cell 1 rfl
  have c2 := HA.out.cell 2 rfl
  have c3 := HA.out.cell 3 rfl
  have c4 := HA.out.cell 4 rfl
  clear hk hx1 hx2 hx3 hhd hq hr e1 e2 e3 e4 hx4
  have hz4 : ¬ ((body.size : Int) = 184) := by omega
  have hL5 : L.length = 5 := by rw [← hL]; rfl
  have HL := Lib.hid hL
  clear hL hz hN
  go_enter Tryd.func8, Tryd.ntmps8
  go_wp2_with (at_builtin; refine wp_push8v rfl _ _ rfl x4 (by unfold B; rw [HE4.out]) (b + 1 + 1) (by rw [World.size_alloc, hsA]) HO.out rfl rfl (by show 4 ≤ 1000000000; decide) ((Keeps.refl wA).alloc _) ?_; intro v2 w2 o2 k2; rw [HL.out] at o2; have HO2 := Lib.hid o2; have HK2 := Lib.hid k2; clear o2 k2)
  go_loopw [5, 7] (fun v i wr => pkbRel wA L N v i wr) (fun _ i _ => N - (intOf i).toNat)
  case atStart => exact ⟨0, by omega, rfl, by rw [List.take_zero, List.append_nil]; exact HO2.out, HK2.out⟩
  case round =>
    obtain ⟨k, hkN, rfl, hown, hkp⟩ := hrel
    by_cases hlt : k < N
    · have HF := Lib.hid (fil_next N k hlt)
      have hlen : (L ++ (fil N).take k).length ≤ 1000000000 := by rw [List.length_append, List.length_take, hL5]; omega
      have HX := Lib.hid (show ∀ y, y = (if k = 0 then (0 : UInt8) else 255) → L ++ (fil N).take k ++ [y] = L ++ (fil N).take (k + 1) by rintro _ rfl; rw [List.append_assoc, HF.out])
      obtain ⟨M, hM⟩ : ∃ M, L ++ (fil N).take k = M := ⟨_, rfl⟩
      rw [hM] at hlen HX hown
      have HOW := Lib.hid hown
      have HKP := Lib.hid hkp
      clear hM hown hkp HF c0 c1 c2 c3 c4
      by_cases h0 : k = 0
      · subst h0
        go_wp2_with (at_builtin; refine wp_push8v rfl _ _ rfl 0 rfl _ rfl HOW.out rfl rfl hlen HKP.out ?_; intro v3 w3 o3 k3; have HO3 := Lib.hid o3; have HK3 := Lib.hid k3; clear o3 k3)
        go_roundw
        case rel => exact ⟨1, by omega, rfl, by rw [← HX.out 0 rfl]; exact HO3.out, HK3.out⟩
        case measure => simp [intOf]; omega
      · have h0I : ¬ ((k : Int) = 0) := by omega
        go_wp2_with (at_builtin; refine wp_push8v rfl _ _ rfl 255 rfl _ rfl HOW.out rfl rfl hlen HKP.out ?_; intro v3 w3 o3 k3; have HO3 := Lib.hid o3; have HK3 := Lib.hid k3; clear o3 k3)
        go_roundw
        case rel => exact ⟨k + 1, by omega, by go_num, by rw [← HX.out 255 (by rw [if_neg h0])]; exact HO3.out, HK3.out⟩
        case measure => simp [intOf]; omega
    · have hE : (fil N).take k = fil N := List.take_of_length_le (by rw [fil_length]; omega)
      rw [hE] at hown
      have hcv := hown.text
      clear c0 c1 c2 c3 c4
      have c4 := (HA.out.keeps hkp).cell 4 rfl
      have hsz : (st (L ++ fil N)).size = 5 + N := by rw [st_size, List.length_append, fil_length, hL5]
      have HKP := Lib.hid hkp
      clear hown hkp hE
      go_wp2
      go_ret
      exact ⟨rfl, HKA.out.trans HKP.out⟩
set_option maxHeartbeats 1600000 in
theorem rpkbytes013 (w0 : World) (pid count : Int) (body : ByteArray) (w : World) (hk : Keeps w0 w) (hp : 0 ≤ pid ∧ pid ≤ 8191) (hc : 0 ≤ count ∧ count ≤ 15) (hz : 0 < body.size ∧ body.size < 184) :
    Calls Tryd.prog 8 #[pkV ⟨pid, true, count, false, body⟩] w fun e w' => e = .returned (.string (st (bts ⟨pid, true, count, false, body⟩))) ∧ Keeps w0 w' := by
  obtain ⟨q, hq⟩ : ∃ q, pid / 256 = q := ⟨_, rfl⟩
  obtain ⟨r, hr⟩ : ∃ r, pid % 256 = r := ⟨_, rfl⟩
  have ed : pid.tdiv 256 = q := by rw [Int.tdiv_eq_ediv_of_nonneg hp.1]; exact hq
  have em : pid.tmod 256 = r := by rw [Int.tmod_eq_emod_of_nonneg hp.1]; exact hr
  obtain ⟨x1, hx1⟩ : ∃ x, UInt8.ofNat (pid.toNat / 256 + 128 * 0 + 64 * 1) = x := ⟨_, rfl⟩
  obtain ⟨x2, hx2⟩ : ∃ x, UInt8.ofNat (pid.toNat % 256) = x := ⟨_, rfl⟩
  obtain ⟨x3, hx3⟩ : ∃ x, UInt8.ofNat (16 * 3 + count.toNat) = x := ⟨_, rfl⟩
  have e1 : q + 64 = (x1.toNat : Int) := by
    rw [← hx1, toNat_of (show pid.toNat / 256 + 128 * 0 + 64 * 1 < 256 by omega)]
    show _ = ((pid.toNat / 256 + 128 * 0 + 64 * 1 : Nat) : Int)
    omega
  have e2 : r = (x2.toNat : Int) := by rw [← hx2, toNat_of (by omega)]; omega
  have e3 : 48 + count = (x3.toNat : Int) := by rw [← hx3, toNat_of (by omega)]; omega
  have hhd : hd ⟨pid, true, count, false, body⟩ = [71, x1, x2, x3] := by
    unfold hd
    show [71, UInt8.ofNat (pid.toNat / 256 + 128 * 0 + 64 * 1), UInt8.ofNat (pid.toNat % 256), UInt8.ofNat (16 * how body.size + count.toNat)] = _
    rw [hx1, hx2, show how body.size = 3 by unfold how; rw [if_neg (by omega), if_neg (by omega)], hx3]
  obtain ⟨N, hN⟩ : ∃ N, 183 - body.size = N := ⟨_, rfl⟩
  obtain ⟨x4, hx4⟩ : ∃ x, UInt8.ofNat N = x := ⟨_, rfl⟩
  have e4 : (N : Int) = (x4.toNat : Int) := by rw [← hx4, toNat_of (by omega)]
  have e5 : (183 : Int) - (body.size : Int) = (N : Int) := by omega
  obtain ⟨L, hL⟩ : ∃ L, [71, x1, x2, x3] ++ [x4] = L := ⟨_, rfl⟩
  have HE := Lib.hid (show st (L ++ fil N) ++ body = st (bts ⟨pid, true, count, false, body⟩) by
    rw [← hL]
    unfold bts; rw [hhd, show adp body.size = x4 :: fil N by unfold adp; rw [if_neg (by omega), hN, hx4]]
    rw [← st_ls body, st_append, ls_st]; simp)
  have hNb : N ≤ 183 := by omega
  have hb0 : (body.toList == []) = false := by
    rw [beq_eq_false_iff_ne, ls_toList]; intro e
    have h3 := ls_size body; rw [e] at h3
    have h4 := hz.1
    rw [h3] at h4
    exact absurd h4 (by decide)
  rw [← HE.out]
  obtain ⟨hp1, hp2⟩ := hp
  obtain ⟨hc1, hc2⟩ := hc
  have hq1 : 0 ≤ q := by omega
  have hq2 : q ≤ 31 := by omega
  have hr1 : 0 ≤ r := by omega
  have hr2 : r ≤ 255 := by omega
  have HE4 := Lib.hid e4
  have wr1 := wrapI (a := q) (by omega) (by omega)
  have wr2 := wrapI (a := q + 128) (by omega) (by omega)
  have wr3 := wrapI (a := q + 64) (by omega) (by omega)
  have wr4 := wrapI (a := q + 128 + 64) (by omega) (by omega)
  have wr5 := wrapI (a := r) (by omega) (by omega)
  have wr6 := wrapI (a := 48 + count) (by omega) (by omega)
  have HK := Lib.hid hk
  obtain ⟨b, hb⟩ : ∃ b, w.heap.size = b := ⟨_, rfl⟩
  have hbs := Below.size hk
  rw [hb] at hbs
  obtain ⟨wA, hA⟩ : ∃ wX, w.alloc (.cells #[.int .i64 pid, .bool true, .int .i64 count, .bool false, .string body] 29) = wX := ⟨_, rfl⟩
  have HA := Lib.hid (show CsAt b (pkC ⟨pid, true, count, false, body⟩) wA by rw [← hb, ← hA]; exact CsAt.made w #[.int .i64 pid, .bool true, .int .i64 count, .bool false, .string body] _ (by simp))
  have HKA := Lib.hid (show Keeps w0 wA by rw [← hA]; exact hk.alloc _)
  have hsA : wA.heap.size = b + 1 := by rw [← hA, World.size_alloc, hb]
  have HO := Lib.hid (own_lit8 (n := 4) wA wA.heap.size [71, x1, x2, x3] #[.int .u8 71, .int .u8 (q + 64), .int .u8 r, .int .u8 (48 + count)] (by rw [e1, e2, e3]; rfl) rfl (by decide) (Nat.le_refl _) hsA)
  have c0 := HA.out.cell 0 rfl
  have c1 := HA.out.cell 1 rfl
  have c2 := HA.out.cell 2 rfl
  have c3 := HA.out.cell 3 rfl
  have c4 := HA.out.cell 4 rfl
  clear hk hx1 hx2 hx3 hhd hq hr e1 e2 e3 e4 hx4
  have hz4 : ¬ ((body.size : Int) = 184) := by omega
  have hL5 : L.length = 5 := by rw [← hL]; rfl
  have HL := Lib.hid hL
  clear hL hz hN
  go_enter Tryd.func8, Tryd.ntmps8
  go_wp2_with (at_builtin; refine wp_push8v rfl _ _ rfl x4 (by unfold B; rw [HE4.out]) (b + 1 + 1) (by rw [World.size_alloc, hsA]) HO.out rfl rfl (by show 4 ≤ 1000000000; decide) ((Keeps.refl wA).alloc _) ?_; intro v2 w2 o2 k2; rw [HL.out] at o2; have HO2 := Lib.hid o2; have HK2 := Lib.hid k2; clear o2 k2)
  go_loopw [5, 7] (fun v i wr => pkbRel wA L N v i wr) (fun _ i _ => N - (intOf i).toNat)
  case atStart => exact ⟨0, by omega, rfl, by rw [List.take_zero, List.append_nil]; exact HO2.out, HK2.out⟩
  case round =>
    obtain ⟨k, hkN, rfl, hown, hkp⟩ := hrel
    by_cases hlt : k < N
    · have HF := Lib.hid (fil_next N k hlt)
      have hlen : (L ++ (fil N).take k).length ≤ 1000000000 := by rw [List.length_append, List.length_take, hL5]; omega
      have HX := Lib.hid (show ∀ y, y = (if k = 0 then (0 : UInt8) else 255) → L ++ (fil N).take k ++ [y] = L ++ (fil N).take (k + 1) by rintro _ rfl; rw [List.append_assoc, HF.out])
      obtain ⟨M, hM⟩ : ∃ M, L ++ (fil N).take k = M := ⟨_, rfl⟩
      rw [hM] at hlen HX hown
      have HOW := Lib.hid hown
      have HKP := Lib.hid hkp
      clear hM hown hkp HF c0 c1 c2 c3 c4
      by_cases h0 : k = 0
      · subst h0
        go_wp2_with (at_builtin; refine wp_push8v rfl _ _ rfl 0 rfl _ rfl HOW.out rfl rfl hlen HKP.out ?_; intro v3 w3 o3 k3; have HO3 := Lib.hid o3; have HK3 := Lib.hid k3; clear o3 k3)
        go_roundw
        case rel => exact ⟨1, by omega, rfl, by rw [← HX.out 0 rfl]; exact HO3.out, HK3.out⟩
        case measure => simp [intOf]; omega
      · have h0I : ¬ ((k : Int) = 0) := by omega
        go_wp2_with (at_builtin; refine wp_push8v rfl _ _ rfl 255 rfl _ rfl HOW.out rfl rfl hlen HKP.out ?_; intro v3 w3 o3 k3; have HO3 := Lib.hid o3; have HK3 := Lib.hid k3; clear o3 k3)
        go_roundw
        case rel => exact ⟨k + 1, by omega, by go_num, by rw [← HX.out 255 (by rw [if_neg h0])]; exact HO3.out, HK3.out⟩
        case measure => simp [intOf]; omega
    · have hE : (fil N).take k = fil N := List.take_of_length_le (by rw [fil_length]; omega)
      rw [hE] at hown
      have hcv := hown.text
      clear c0 c1 c2 c3 c4
      have c4 := (HA.out.keeps hkp).cell 4 rfl
      have hsz : (st (L ++ fil N)).size = 5 + N := by rw [st_size, List.length_append, fil_length, hL5]
      have HKP := Lib.hid hkp
      clear hown hkp hE
      go_wp2
      go_ret
      exact ⟨rfl, HKA.out.trans HKP.out⟩
set_option maxHeartbeats 1600000 in
theorem rpkbytes101 (w0 : World) (pid count : Int) (body : ByteArray) (w : World) (hk : Keeps w0 w) (hp : 0 ≤ pid ∧ pid ≤ 8191) (hc : 0 ≤ count ∧ count ≤ 15) (hz : body.size = 184) :
    Calls Tryd.prog 8 #[pkV ⟨pid, false, count, true, body⟩] w fun e w' => e = .returned (.string (st (bts ⟨pid, false, count, true, body⟩))) ∧ Keeps w0 w' := by
  obtain ⟨q, hq⟩ : ∃ q, pid / 256 = q := ⟨_, rfl⟩
  obtain ⟨r, hr⟩ : ∃ r, pid % 256 = r := ⟨_, rfl⟩
  have ed : pid.tdiv 256 = q := by rw [Int.tdiv_eq_ediv_of_nonneg hp.1]; exact hq
  have em : pid.tmod 256 = r := by rw [Int.tmod_eq_emod_of_nonneg hp.1]; exact hr
  obtain ⟨x1, hx1⟩ : ∃ x, UInt8.ofNat (pid.toNat / 256 + 128 * 1 + 64 * 0) = x := ⟨_, rfl⟩
  obtain ⟨x2, hx2⟩ : ∃ x, UInt8.ofNat (pid.toNat % 256) = x := ⟨_, rfl⟩
  obtain ⟨x3, hx3⟩ : ∃ x, UInt8.ofNat (16 * 1 + count.toNat) = x := ⟨_, rfl⟩
  have e1 : q + 128 = (x1.toNat : Int) := by
    rw [← hx1, toNat_of (show pid.toNat / 256 + 128 * 1 + 64 * 0 < 256 by omega)]
    show _ = ((pid.toNat / 256 + 128 * 1 + 64 * 0 : Nat) : Int)
    omega
  have e2 : r = (x2.toNat : Int) := by rw [← hx2, toNat_of (by omega)]; omega
  have e3 : 16 + count = (x3.toNat : Int) := by rw [← hx3, toNat_of (by omega)]; omega
  have hhd : hd ⟨pid, false, count, true, body⟩ = [71, x1, x2, x3] := by
    unfold hd
    show [71, UInt8.ofNat (pid.toNat / 256 + 128 * 1 + 64 * 0), UInt8.ofNat (pid.toNat % 256), UInt8.ofNat (16 * how body.size + count.toNat)] = _
    rw [hx1, hx2, show how body.size = 1 by unfold how; rw [if_pos hz], hx3]
  have HE := Lib.hid (show st [71, x1, x2, x3] ++ body = st (bts ⟨pid, false, count, true, body⟩) by
    unfold bts; rw [hhd, show adp body.size = [] by unfold adp; rw [if_pos hz]]
    rw [List.nil_append, ← st_append, st_ls])
  rw [← HE.out]
  obtain ⟨hp1, hp2⟩ := hp
  obtain ⟨hc1, hc2⟩ := hc
  have hq1 : 0 ≤ q := by omega
  have hq2 : q ≤ 31 := by omega
  have hr1 : 0 ≤ r := by omega
  have hr2 : r ≤ 255 := by omega
  have wr1 := wrapI (a := q) (by omega) (by omega)
  have wr2 := wrapI (a := q + 128) (by omega) (by omega)
  have wr3 := wrapI (a := q + 64) (by omega) (by omega)
  have wr4 := wrapI (a := q + 128 + 64) (by omega) (by omega)
  have wr5 := wrapI (a := r) (by omega) (by omega)
  have wr6 := wrapI (a := 16 + count) (by omega) (by omega)
  have HK := Lib.hid hk
  obtain ⟨b, hb⟩ : ∃ b, w.heap.size = b := ⟨_, rfl⟩
  have hbs := Below.size hk
  rw [hb] at hbs
  obtain ⟨wA, hA⟩ : ∃ wX, w.alloc (.cells #[.int .i64 pid, .bool false, .int .i64 count, .bool true, .string body] 29) = wX := ⟨_, rfl⟩
  have HA := Lib.hid (show CsAt b (pkC ⟨pid, false, count, true, body⟩) wA by rw [← hb, ← hA]; exact CsAt.made w #[.int .i64 pid, .bool false, .int .i64 count, .bool true, .string body] _ (by simp))
  have HKA := Lib.hid (show Keeps w0 wA by rw [← hA]; exact hk.alloc _)
  have hsA : wA.heap.size = b + 1 := by rw [← hA, World.size_alloc, hb]
  have HO := Lib.hid (own_lit8 (n := 4) wA wA.heap.size [71, x1, x2, x3] #[.int .u8 71, .int .u8 (q + 128), .int .u8 r, .int .u8 (16 + count)] (by rw [e1, e2, e3]; rfl) rfl (by decide) (Nat.le_refl _) hsA)
  have c0 := HA.out.cell 0 rfl
  have c1 := HA.out.cell 1 rfl
  have c2 := HA.out.cell 2 rfl
  have c3 := HA.out.cell 3 rfl
  have c4 := HA.out.cell 4 rfl
  clear hk hx1 hx2 hx3 hhd hq hr e1 e2 e3
  have hzI : (body.size : Int) = 184 := by omega
  have hb0 : (body.toList == []) = false := by
    rw [beq_eq_false_iff_ne, ls_toList]; intro e
    have := ls_size body; rw [e, hz] at this
    simp at this
  have hcv := HO.out.text
  have hs4 : (st [71, x1, x2, x3]).size = 4 := rfl
  go_enter Tryd.func8, Tryd.ntmps8
  go_wp2
  go_ret
  exact ⟨rfl, HKA.out.alloc _⟩
set_option maxHeartbeats 1600000 in
theorem rpkbytes102 (w0 : World) (pid count : Int) (body : ByteArray) (w : World) (hk : Keeps w0 w) (hp : 0 ≤ pid ∧ pid ≤ 8191) (hc : 0 ≤ count ∧ count ≤ 15) (hz : body.size = 0) :
    Calls Tryd.prog 8 #[pkV ⟨pid, false, count, true, body⟩] w fun e w' => e = .returned (.string (st (bts ⟨pid, false, count, true, body⟩))) ∧ Keeps w0 w' := by
  obtain ⟨q, hq⟩ : ∃ q, pid / 256 = q := ⟨_, rfl⟩
  obtain ⟨r, hr⟩ : ∃ r, pid % 256 = r := ⟨_, rfl⟩
  have ed : pid.tdiv 256 = q := by rw [Int.tdiv_eq_ediv_of_nonneg hp.1]; exact hq
  have em : pid.tmod 256 = r := by rw [Int.tmod_eq_emod_of_nonneg hp.1]; exact hr
  obtain ⟨x1, hx1⟩ : ∃ x, UInt8.ofNat (pid.toNat / 256 + 128 * 1 + 64 * 0) = x := ⟨_, rfl⟩
  obtain ⟨x2, hx2⟩ : ∃ x, UInt8.ofNat (pid.toNat % 256) = x := ⟨_, rfl⟩
  obtain ⟨x3, hx3⟩ : ∃ x, UInt8.ofNat (16 * 2 + count.toNat) = x := ⟨_, rfl⟩
  have e1 : q + 128 = (x1.toNat : Int) := by
    rw [← hx1, toNat_of (show pid.toNat / 256 + 128 * 1 + 64 * 0 < 256 by omega)]
    show _ = ((pid.toNat / 256 + 128 * 1 + 64 * 0 : Nat) : Int)
    omega
  have e2 : r = (x2.toNat : Int) := by rw [← hx2, toNat_of (by omega)]; omega
  have e3 : 32 + count = (x3.toNat : Int) := by rw [← hx3, toNat_of (by omega)]; omega
  have hhd : hd ⟨pid, false, count, true, body⟩ = [71, x1, x2, x3] := by
    unfold hd
    show [71, UInt8.ofNat (pid.toNat / 256 + 128 * 1 + 64 * 0), UInt8.ofNat (pid.toNat % 256), UInt8.ofNat (16 * how body.size + count.toNat)] = _
    rw [hx1, hx2, show how body.size = 2 by unfold how; rw [if_neg (by omega), if_pos hz], hx3]
  obtain ⟨N, hN⟩ : ∃ N, 183 - body.size = N := ⟨_, rfl⟩
  obtain ⟨x4, hx4⟩ : ∃ x, UInt8.ofNat N = x := ⟨_, rfl⟩
  have e4 : (N : Int) = (x4.toNat : Int) := by rw [← hx4, toNat_of (by omega)]
  have e5 : (183 : Int) - (body.size : Int) = (N : Int) := by omega
  obtain ⟨L, hL⟩ : ∃ L, [71, x1, x2, x3] ++ [x4] = L := ⟨_, rfl⟩
  have HE := Lib.hid (show st (L ++ fil N) ++ body = st (bts ⟨pid, false, count, true, body⟩) by
    rw [← hL]
    unfold bts; rw [hhd, show adp body.size = x4 :: fil N by unfold adp; rw [if_neg (by omega), hN, hx4]]
    rw [← st_ls body, st_append, ls_st]; simp)
  have hNb : N ≤ 183 := by omega
  have hb0 : body.toList = [] := by rw [ls_toList]; exact List.length_eq_zero_iff.1 (by rw [← ls_size]; exact hz)
  rw [← HE.out]
  obtain ⟨hp1, hp2⟩ := hp
  obtain ⟨hc1, hc2⟩ := hc
  have hq1 : 0 ≤ q := by omega
  have hq2 : q ≤ 31 := by omega
  have hr1 : 0 ≤ r := by omega
  have hr2 : r ≤ 255 := by omega
  have HE4 := Lib.hid e4
  have wr1 := wrapI (a := q) (by omega) (by omega)
  have wr2 := wrapI (a := q + 128) (by omega) (by omega)
  have wr3 := wrapI (a := q + 64) (by omega) (by omega)
  have wr4 := wrapI (a := q + 128 + 64) (by omega) (by omega)
  have wr5 := wrapI (a := r) (by omega) (by omega)
  have wr6 := wrapI (a := 32 + count) (by omega) (by omega)
  have HK := Lib.hid hk
  obtain ⟨b, hb⟩ : ∃ b, w.heap.size = b := ⟨_, rfl⟩
  have hbs := Below.size hk
  rw [hb] at hbs
  obtain ⟨wA, hA⟩ : ∃ wX, w.alloc (.cells #[.int .i64 pid, .bool false, .int .i64 count, .bool true, .string body] 29) = wX := ⟨_, rfl⟩
  have HA := Lib.hid (show CsAt b (pkC ⟨pid, false, count, true, body⟩) wA by rw [← hb, ← hA]; exact CsAt.made w #[.int .i64 pid, .bool false, .int .i64 count, .bool true, .string body] _ (by simp))
  have HKA := Lib.hid (show Keeps w0 wA by rw [← hA]; exact hk.alloc _)
  have hsA : wA.heap.size = b + 1 := by rw [← hA, World.size_alloc, hb]
  have HO := Lib.hid (own_lit8 (n := 4) wA wA.heap.size [71, x1, x2, x3] #[.int .u8 71, .int .u8 (q + 128), .int .u8 r, .int .u8 (32 + count)] (by rw [e1, e2, e3]; rfl) rfl (by decide) (Nat.le_refl _) hsA)
  have c0 := HA.out.cell 0 rfl
  have c1 := HA.out.cell 1 rfl
  have c2 := HA.out.cell 2 rfl
  have c3 := HA.out.cell 3 rfl
  have c4 := HA.out.cell 4 rfl
  clear hk hx1 hx2 hx3 hhd hq hr e1 e2 e3 e4 hx4
  have hz4 : ¬ ((body.size : Int) = 184) := by omega
  have hL5 : L.length = 5 := by rw [← hL]; rfl
  have HL := Lib.hid hL
  clear hL hz hN
  go_enter Tryd.func8, Tryd.ntmps8
  go_wp2_with (at_builtin; refine wp_push8v rfl _ _ rfl x4 (by unfold B; rw [HE4.out]) (b + 1 + 1) (by rw [World.size_alloc, hsA]) HO.out rfl rfl (by show 4 ≤ 1000000000; decide) ((Keeps.refl wA).alloc _) ?_; intro v2 w2 o2 k2; rw [HL.out] at o2; have HO2 := Lib.hid o2; have HK2 := Lib.hid k2; clear o2 k2)
  go_loopw [5, 7] (fun v i wr => pkbRel wA L N v i wr) (fun _ i _ => N - (intOf i).toNat)
  case atStart => exact ⟨0, by omega, rfl, by rw [List.take_zero, List.append_nil]; exact HO2.out, HK2.out⟩
  case round =>
    obtain ⟨k, hkN, rfl, hown, hkp⟩ := hrel
    by_cases hlt : k < N
    · have HF := Lib.hid (fil_next N k hlt)
      have hlen : (L ++ (fil N).take k).length ≤ 1000000000 := by rw [List.length_append, List.length_take, hL5]; omega
      have HX := Lib.hid (show ∀ y, y = (if k = 0 then (0 : UInt8) else 255) → L ++ (fil N).take k ++ [y] = L ++ (fil N).take (k + 1) by rintro _ rfl; rw [List.append_assoc, HF.out])
      obtain ⟨M, hM⟩ : ∃ M, L ++ (fil N).take k = M := ⟨_, rfl⟩
      rw [hM] at hlen HX hown
      have HOW := Lib.hid hown
      have HKP := Lib.hid hkp
      clear hM hown hkp HF c0 c1 c2 c3 c4
      by_cases h0 : k = 0
      · subst h0
        go_wp2_with (at_builtin; refine wp_push8v rfl _ _ rfl 0 rfl _ rfl HOW.out rfl rfl hlen HKP.out ?_; intro v3 w3 o3 k3; have HO3 := Lib.hid o3; have HK3 := Lib.hid k3; clear o3 k3)
        go_roundw
        case rel => exact ⟨1, by omega, rfl, by rw [← HX.out 0 rfl]; exact HO3.out, HK3.out⟩
        case measure => simp [intOf]; omega
      · have h0I : ¬ ((k : Int) = 0) := by omega
        go_wp2_with (at_builtin; refine wp_push8v rfl _ _ rfl 255 rfl _ rfl HOW.out rfl rfl hlen HKP.out ?_; intro v3 w3 o3 k3; have HO3 := Lib.hid o3; have HK3 := Lib.hid k3; clear o3 k3)
        go_roundw
        case rel => exact ⟨k + 1, by omega, by go_num, by rw [← HX.out 255 (by rw [if_neg h0])]; exact HO3.out, HK3.out⟩
        case measure => simp [intOf]; omega
    · have hE : (fil N).take k = fil N := List.take_of_length_le (by rw [fil_length]; omega)
      rw [hE] at hown
      have hcv := hown.text
      clear c0 c1 c2 c3 c4
      have c4 := (HA.out.keeps hkp).cell 4 rfl
      have hsz : (st (L ++ fil N)).size = 5 + N := by rw [st_size, List.length_append, fil_length, hL5]
      have HKP := Lib.hid hkp
      clear hown hkp hE
      go_wp2
      go_ret
      exact ⟨rfl, HKA.out.trans HKP.out⟩
set_option maxHeartbeats 1600000 in
theorem rpkbytes103 (w0 : World) (pid count : Int) (body : ByteArray) (w : World) (hk : Keeps w0 w) (hp : 0 ≤ pid ∧ pid ≤ 8191) (hc : 0 ≤ count ∧ count ≤ 15) (hz : 0 < body.size ∧ body.size < 184) :
    Calls Tryd.prog 8 #[pkV ⟨pid, false, count, true, body⟩] w fun e w' => e = .returned (.string (st (bts ⟨pid, false, count, true, body⟩))) ∧ Keeps w0 w' := by
  obtain ⟨q, hq⟩ : ∃ q, pid / 256 = q := ⟨_, rfl⟩
  obtain ⟨r, hr⟩ : ∃ r, pid % 256 = r := ⟨_, rfl⟩
  have ed : pid.tdiv 256 = q := by rw [Int.tdiv_eq_ediv_of_nonneg hp.1]; exact hq
  have em : pid.tmod 256 = r := by rw [Int.tmod_eq_emod_of_nonneg hp.1]; exact hr
  obtain ⟨x1, hx1⟩ : ∃ x, UInt8.ofNat (pid.toNat / 256 + 128 * 1 + 64 * 0) = x := ⟨_, rfl⟩
  obtain ⟨x2, hx2⟩ : ∃ x, UInt8.ofNat (pid.toNat % 256) = x := ⟨_, rfl⟩
  obtain ⟨x3, hx3⟩ : ∃ x, UInt8.ofNat (16 * 3 + count.toNat) = x := ⟨_, rfl⟩
  have e1 : q + 128 = (x1.toNat : Int) := by
    rw [← hx1, toNat_of (show pid.toNat / 256 + 128 * 1 + 64 * 0 < 256 by omega)]
    show _ = ((pid.toNat / 256 + 128 * 1 + 64 * 0 : Nat) : Int)
    omega
  have e2 : r = (x2.toNat : Int) := by rw [← hx2, toNat_of (by omega)]; omega
  have e3 : 48 + count = (x3.toNat : Int) := by rw [← hx3, toNat_of (by omega)]; omega
  have hhd : hd ⟨pid, false, count, true, body⟩ = [71, x1, x2, x3] := by
    unfold hd
    show [71, UInt8.ofNat (pid.toNat / 256 + 128 * 1 + 64 * 0), UInt8.ofNat (pid.toNat % 256), UInt8.ofNat (16 * how body.size + count.toNat)] = _
    rw [hx1, hx2, show how body.size = 3 by unfold how; rw [if_neg (by omega), if_neg (by omega)], hx3]
  obtain ⟨N, hN⟩ : ∃ N, 183 - body.size = N := ⟨_, rfl⟩
  obtain ⟨x4, hx4⟩ : ∃ x, UInt8.ofNat N = x := ⟨_, rfl⟩
  have e4 : (N : Int) = (x4.toNat : Int) := by rw [← hx4, toNat_of (by omega)]
  have e5 : (183 : Int) - (body.size : Int) = (N : Int) := by omega
  obtain ⟨L, hL⟩ : ∃ L, [71, x1, x2, x3] ++ [x4] = L := ⟨_, rfl⟩
  have HE := Lib.hid (show st (L ++ fil N) ++ body = st (bts ⟨pid, false, count, true, body⟩) by
    rw [← hL]
    unfold bts; rw [hhd, show adp body.size = x4 :: fil N by unfold adp; rw [if_neg (by omega), hN, hx4]]
    rw [← st_ls body, st_append, ls_st]; simp)
  have hNb : N ≤ 183 := by omega
  have hb0 : (body.toList == []) = false := by
    rw [beq_eq_false_iff_ne, ls_toList]; intro e
    have h3 := ls_size body; rw [e] at h3
    have h4 := hz.1
    rw [h3] at h4
    exact absurd h4 (by decide)
  rw [← HE.out]
  obtain ⟨hp1, hp2⟩ := hp
  obtain ⟨hc1, hc2⟩ := hc
  have hq1 : 0 ≤ q := by omega
  have hq2 : q ≤ 31 := by omega
  have hr1 : 0 ≤ r := by omega
  have hr2 : r ≤ 255 := by omega
  have HE4 := Lib.hid e4
  have wr1 := wrapI (a := q) (by omega) (by omega)
  have wr2 := wrapI (a := q + 128) (by omega) (by omega)
  have wr3 := wrapI (a := q + 64) (by omega) (by omega)
  have wr4 := wrapI (a := q + 128 + 64) (by omega) (by omega)
  have wr5 := wrapI (a := r) (by omega) (by omega)
  have wr6 := wrapI (a := 48 + count) (by omega) (by omega)
  have HK := Lib.hid hk
  obtain ⟨b, hb⟩ : ∃ b, w.heap.size = b := ⟨_, rfl⟩
  have hbs := Below.size hk
  rw [hb] at hbs
  obtain ⟨wA, hA⟩ : ∃ wX, w.alloc (.cells #[.int .i64 pid, .bool false, .int .i64 count, .bool true, .string body] 29) = wX := ⟨_, rfl⟩
  have HA := Lib.hid (show CsAt b (pkC ⟨pid, false, count, true, body⟩) wA by rw [← hb, ← hA]; exact CsAt.made w #[.int .i64 pid, .bool false, .int .i64 count, .bool true, .string body] _ (by simp))
  have HKA := Lib.hid (show Keeps w0 wA by rw [← hA]; exact hk.alloc _)
  have hsA : wA.heap.size = b + 1 := by rw [← hA, World.size_alloc, hb]
  have HO := Lib.hid (own_lit8 (n := 4) wA wA.heap.size [71, x1, x2, x3] #[.int .u8 71, .int .u8 (q + 128), .int .u8 r, .int .u8 (48 + count)] (by rw [e1, e2, e3]; rfl) rfl (by decide) (Nat.le_refl _) hsA)
  have c0 := HA.out.cell 0 rfl
  have c1 := HA.out.cell 1 rfl
  have c2 := HA.out.cell 2 rfl
  have c3 := HA.out.cell 3 rfl
  have c4 := HA.out.cell 4 rfl
  clear hk hx1 hx2 hx3 hhd hq hr e1 e2 e3 e4 hx4
  have hz4 : ¬ ((body.size : Int) = 184) := by omega
  have hL5 : L.length = 5 := by rw [← hL]; rfl
  have HL := Lib.hid hL
  clear hL hz hN
  go_enter Tryd.func8, Tryd.ntmps8
  go_wp2_with (at_builtin; refine wp_push8v rfl _ _ rfl x4 (by unfold B; rw [HE4.out]) (b + 1 + 1) (by rw [World.size_alloc, hsA]) HO.out rfl rfl (by show 4 ≤ 1000000000; decide) ((Keeps.refl wA).alloc _) ?_; intro v2 w2 o2 k2; rw [HL.out] at o2; have HO2 := Lib.hid o2; have HK2 := Lib.hid k2; clear o2 k2)
  go_loopw [5, 7] (fun v i wr => pkbRel wA L N v i wr) (fun _ i _ => N - (intOf i).toNat)
  case atStart => exact ⟨0, by omega, rfl, by rw [List.take_zero, List.append_nil]; exact HO2.out, HK2.out⟩
  case round =>
    obtain ⟨k, hkN, rfl, hown, hkp⟩ := hrel
    by_cases hlt : k < N
    · have HF := Lib.hid (fil_next N k hlt)
      have hlen : (L ++ (fil N).take k).length ≤ 1000000000 := by rw [List.length_append, List.length_take, hL5]; omega
      have HX := Lib.hid (show ∀ y, y = (if k = 0 then (0 : UInt8) else 255) → L ++ (fil N).take k ++ [y] = L ++ (fil N).take (k + 1) by rintro _ rfl; rw [List.append_assoc, HF.out])
      obtain ⟨M, hM⟩ : ∃ M, L ++ (fil N).take k = M := ⟨_, rfl⟩
      rw [hM] at hlen HX hown
      have HOW := Lib.hid hown
      have HKP := Lib.hid hkp
      clear hM hown hkp HF c0 c1 c2 c3 c4
      by_cases h0 : k = 0
      · subst h0
        go_wp2_with (at_builtin; refine wp_push8v rfl _ _ rfl 0 rfl _ rfl HOW.out rfl rfl hlen HKP.out ?_; intro v3 w3 o3 k3; have HO3 := Lib.hid o3; have HK3 := Lib.hid k3; clear o3 k3)
        go_roundw
        case rel => exact ⟨1, by omega, rfl, by rw [← HX.out 0 rfl]; exact HO3.out, HK3.out⟩
        case measure => simp [intOf]; omega
      · have h0I : ¬ ((k : Int) = 0) := by omega
        go_wp2_with (at_builtin; refine wp_push8v rfl _ _ rfl 255 rfl _ rfl HOW.out rfl rfl hlen HKP.out ?_; intro v3 w3 o3 k3; have HO3 := Lib.hid o3; have HK3 := Lib.hid k3; clear o3 k3)
        go_roundw
        case rel => exact ⟨k + 1, by omega, by go_num, by rw [← HX.out 255 (by rw [if_neg h0])]; exact HO3.out, HK3.out⟩
        case measure => simp [intOf]; omega
    · have hE : (fil N).take k = fil N := List.take_of_length_le (by rw [fil_length]; omega)
      rw [hE] at hown
      have hcv := hown.text
      clear c0 c1 c2 c3 c4
      have c4 := (HA.out.keeps hkp).cell 4 rfl
      have hsz : (st (L ++ fil N)).size = 5 + N := by rw [st_size, List.length_append, fil_length, hL5]
      have HKP := Lib.hid hkp
      clear hown hkp hE
      go_wp2
      go_ret
      exact ⟨rfl, HKA.out.trans HKP.out⟩
set_option maxHeartbeats 1600000 in
theorem rpkbytes111 (w0 : World) (pid count : Int) (body : ByteArray) (w : World) (hk : Keeps w0 w) (hp : 0 ≤ pid ∧ pid ≤ 8191) (hc : 0 ≤ count ∧ count ≤ 15) (hz : body.size = 184) :
    Calls Tryd.prog 8 #[pkV ⟨pid, true, count, true, body⟩] w fun e w' => e = .returned (.string (st (bts ⟨pid, true, count, true, body⟩))) ∧ Keeps w0 w' := by
  obtain ⟨q, hq⟩ : ∃ q, pid / 256 = q := ⟨_, rfl⟩
  obtain ⟨r, hr⟩ : ∃ r, pid % 256 = r := ⟨_, rfl⟩
  have ed : pid.tdiv 256 = q := by rw [Int.tdiv_eq_ediv_of_nonneg hp.1]; exact hq
  have em : pid.tmod 256 = r := by rw [Int.tmod_eq_emod_of_nonneg hp.1]; exact hr
  obtain ⟨x1, hx1⟩ : ∃ x, UInt8.ofNat (pid.toNat / 256 + 128 * 1 + 64 * 1) = x := ⟨_, rfl⟩
  obtain ⟨x2, hx2⟩ : ∃ x, UInt8.ofNat (pid.toNat % 256) = x := ⟨_, rfl⟩
  obtain ⟨x3, hx3⟩ : ∃ x, UInt8.ofNat (16 * 1 + count.toNat) = x := ⟨_, rfl⟩
  have e1 : q + 128 + 64 = (x1.toNat : Int) := by
    rw [← hx1, toNat_of (show pid.toNat / 256 + 128 * 1 + 64 * 1 < 256 by omega)]
    show _ = ((pid.toNat / 256 + 128 * 1 + 64 * 1 : Nat) : Int)
    omega
  have e2 : r = (x2.toNat : Int) := by rw [← hx2, toNat_of (by omega)]; omega
  have e3 : 16 + count = (x3.toNat : Int) := by rw [← hx3, toNat_of (by omega)]; omega
  have hhd : hd ⟨pid, true, count, true, body⟩ = [71, x1, x2, x3] := by
    unfold hd
    show [71, UInt8.ofNat (pid.toNat / 256 + 128 * 1 + 64 * 1), UInt8.ofNat (pid.toNat % 256), UInt8.ofNat (16 * how body.size + count.toNat)] = _
    rw [hx1, hx2, show how body.size = 1 by unfold how; rw [if_pos hz], hx3]
  have HE := Lib.hid (show st [71, x1, x2, x3] ++ body = st (bts ⟨pid, true, count, true, body⟩) by
    unfold bts; rw [hhd, show adp body.size = [] by unfold adp; rw [if_pos hz]]
    rw [List.nil_append, ← st_append, st_ls])
  rw [← HE.out]
  obtain ⟨hp1, hp2⟩ := hp
  obtain ⟨hc1, hc2⟩ := hc
  have hq1 : 0 ≤ q := by omega
  have hq2 : q ≤ 31 := by omega
  have hr1 : 0 ≤ r := by omega
  have hr2 : r ≤ 255 := by omega
  have wr1 := wrapI (a := q) (by omega) (by omega)
  have wr2 := wrapI (a := q + 128) (by omega) (by omega)
  have wr3 := wrapI (a := q + 64) (by omega) (by omega)
  have wr4 := wrapI (a := q + 128 + 64) (by omega) (by omega)
  have wr5 := wrapI (a := r) (by omega) (by omega)
  have wr6 := wrapI (a := 16 + count) (by omega) (by omega)
  have HK := Lib.hid hk
  obtain ⟨b, hb⟩ : ∃ b, w.heap.size = b := ⟨_, rfl⟩
  have hbs := Below.size hk
  rw [hb] at hbs
  obtain ⟨wA, hA⟩ : ∃ wX, w.alloc (.cells #[.int .i64 pid, .bool true, .int .i64 count, .bool true, .string body] 29) = wX := ⟨_, rfl⟩
  have HA := Lib.hid (show CsAt b (pkC ⟨pid, true, count, true, body⟩) wA by rw [← hb, ← hA]; exact CsAt.made w #[.int .i64 pid, .bool true, .int .i64 count, .bool true, .string body] _ (by simp))
  have HKA := Lib.hid (show Keeps w0 wA by rw [← hA]; exact hk.alloc _)
  have hsA : wA.heap.size = b + 1 := by rw [← hA, World.size_alloc, hb]
  have HO := Lib.hid (own_lit8 (n := 4) wA wA.heap.size [71, x1, x2, x3] #[.int .u8 71, .int .u8 (q + 128 + 64), .int .u8 r, .int .u8 (16 + count)] (by rw [e1, e2, e3]; rfl) rfl (by decide) (Nat.le_refl _) hsA)
  have c0 := HA.out.cell 0 rfl
  have c1 := HA.out.cell 1 rfl
  have c2 := HA.out.cell 2 rfl
  have c3 := HA.out.cell 3 rfl
  have c4 := HA.out.cell 4 rfl
  clear hk hx1 hx2 hx3 hhd hq hr e1 e2 e3
  have hzI : (body.size : Int) = 184 := by omega
  have hb0 : (body.toList == []) = false := by
    rw [beq_eq_false_iff_ne, ls_toList]; intro e
    have := ls_size body; rw [e, hz] at this
    simp at this
  have hcv := HO.out.text
  have hs4 : (st [71, x1, x2, x3]).size = 4 := rfl
  go_enter Tryd.func8, Tryd.ntmps8
  go_wp2
  go_ret
  exact ⟨rfl, HKA.out.alloc _⟩
set_option maxHeartbeats 1600000 in
theorem rpkbytes112 (w0 : World) (pid count : Int) (body : ByteArray) (w : World) (hk : Keeps w0 w) (hp : 0 ≤ pid ∧ pid ≤ 8191) (hc : 0 ≤ count ∧ count ≤ 15) (hz : body.size = 0) :
    Calls Tryd.prog 8 #[pkV ⟨pid, true, count, true, body⟩] w fun e w' => e = .returned (.string (st (bts ⟨pid, true, count, true, body⟩))) ∧ Keeps w0 w' := by
  obtain ⟨q, hq⟩ : ∃ q, pid / 256 = q := ⟨_, rfl⟩
  obtain ⟨r, hr⟩ : ∃ r, pid % 256 = r := ⟨_, rfl⟩
  have ed : pid.tdiv 256 = q := by rw [Int.tdiv_eq_ediv_of_nonneg hp.1]; exact hq
  have em : pid.tmod 256 = r := by rw [Int.tmod_eq_emod_of_nonneg hp.1]; exact hr
  obtain ⟨x1, hx1⟩ : ∃ x, UInt8.ofNat (pid.toNat / 256 + 128 * 1 + 64 * 1) = x := ⟨_, rfl⟩
  obtain ⟨x2, hx2⟩ : ∃ x, UInt8.ofNat (pid.toNat % 256) = x := ⟨_, rfl⟩
  obtain ⟨x3, hx3⟩ : ∃ x, UInt8.ofNat (16 * 2 + count.toNat) = x := ⟨_, rfl⟩
  have e1 : q + 128 + 64 = (x1.toNat : Int) := by
    rw [← hx1, toNat_of (show pid.toNat / 256 + 128 * 1 + 64 * 1 < 256 by omega)]
    show _ = ((pid.toNat / 256 + 128 * 1 + 64 * 1 : Nat) : Int)
    omega
  have e2 : r = (x2.toNat : Int) := by rw [← hx2, toNat_of (by omega)]; omega
  have e3 : 32 + count = (x3.toNat : Int) := by rw [← hx3, toNat_of (by omega)]; omega
  have hhd : hd ⟨pid, true, count, true, body⟩ = [71, x1, x2, x3] := by
    unfold hd
    show [71, UInt8.ofNat (pid.toNat / 256 + 128 * 1 + 64 * 1), UInt8.ofNat (pid.toNat % 256), UInt8.ofNat (16 * how body.size + count.toNat)] = _
    rw [hx1, hx2, show how body.size = 2 by unfold how; rw [if_neg (by omega), if_pos hz], hx3]
  obtain ⟨N, hN⟩ : ∃ N, 183 - body.size = N := ⟨_, rfl⟩
  obtain ⟨x4, hx4⟩ : ∃ x, UInt8.ofNat N = x := ⟨_, rfl⟩
  have e4 : (N : Int) = (x4.toNat : Int) := by rw [← hx4, toNat_of (by omega)]
  have e5 : (183 : Int) - (body.size : Int) = (N : Int) := by omega
  obtain ⟨L, hL⟩ : ∃ L, [71, x1, x2, x3] ++ [x4] = L := ⟨_, rfl⟩
  have HE := Lib.hid (show st (L ++ fil N) ++ body = st (bts ⟨pid, true, count, true, body⟩) by
    rw [← hL]
    unfold bts; rw [hhd, show adp body.size = x4 :: fil N by unfold adp; rw [if_neg (by omega), hN, hx4]]
    rw [← st_ls body, st_append, ls_st]; simp)
  have hNb : N ≤ 183 := by omega
  have hb0 : body.toList = [] := by rw [ls_toList]; exact List.length_eq_zero_iff.1 (by rw [← ls_size]; exact hz)
  rw [← HE.out]
  obtain ⟨hp1, hp2⟩ := hp
  obtain ⟨hc1, hc2⟩ := hc
  have hq1 : 0 ≤ q := by omega
  have hq2 : q ≤ 31 := by omega
  have hr1 : 0 ≤ r := by omega
  have hr2 : r ≤ 255 := by omega
  have HE4 := Lib.hid e4
  have wr1 := wrapI (a := q) (by omega) (by omega)
  have wr2 := wrapI (a := q + 128) (by omega) (by omega)
  have wr3 := wrapI (a := q + 64) (by omega) (by omega)
  have wr4 := wrapI (a := q + 128 + 64) (by omega) (by omega)
  have wr5 := wrapI (a := r) (by omega) (by omega)
  have wr6 := wrapI (a := 32 + count) (by omega) (by omega)
  have HK := Lib.hid hk
  obtain ⟨b, hb⟩ : ∃ b, w.heap.size = b := ⟨_, rfl⟩
  have hbs := Below.size hk
  rw [hb] at hbs
  obtain ⟨wA, hA⟩ : ∃ wX, w.alloc (.cells #[.int .i64 pid, .bool true, .int .i64 count, .bool true, .string body] 29) = wX := ⟨_, rfl⟩
  have HA := Lib.hid (show CsAt b (pkC ⟨pid, true, count, true, body⟩) wA by rw [← hb, ← hA]; exact CsAt.made w #[.int .i64 pid, .bool true, .int .i64 count, .bool true, .string body] _ (by simp))
  have HKA := Lib.hid (show Keeps w0 wA by rw [← hA]; exact hk.alloc _)
  have hsA : wA.heap.size = b + 1 := by rw [← hA, World.size_alloc, hb]
  have HO := Lib.hid (own_lit8 (n := 4) wA wA.heap.size [71, x1, x2, x3] #[.int .u8 71, .int .u8 (q + 128 + 64), .int .u8 r, .int .u8 (32 + count)] (by rw [e1, e2, e3]; rfl) rfl (by decide) (Nat.le_refl _) hsA)
  have c0 := HA.out.cell 0 rfl
  have c1 := HA.out.cell 1 rfl
  have c2 := HA.out.cell 2 rfl
  have c3 := HA.out.cell 3 rfl
  have c4 := HA.out.cell 4 rfl
  clear hk hx1 hx2 hx3 hhd hq hr e1 e2 e3 e4 hx4
  have hz4 : ¬ ((body.size : Int) = 184) := by omega
  have hL5 : L.length = 5 := by rw [← hL]; rfl
  have HL := Lib.hid hL
  clear hL hz hN
  go_enter Tryd.func8, Tryd.ntmps8
  go_wp2_with (at_builtin; refine wp_push8v rfl _ _ rfl x4 (by unfold B; rw [HE4.out]) (b + 1 + 1) (by rw [World.size_alloc, hsA]) HO.out rfl rfl (by show 4 ≤ 1000000000; decide) ((Keeps.refl wA).alloc _) ?_; intro v2 w2 o2 k2; rw [HL.out] at o2; have HO2 := Lib.hid o2; have HK2 := Lib.hid k2; clear o2 k2)
  go_loopw [5, 7] (fun v i wr => pkbRel wA L N v i wr) (fun _ i _ => N - (intOf i).toNat)
  case atStart => exact ⟨0, by omega, rfl, by rw [List.take_zero, List.append_nil]; exact HO2.out, HK2.out⟩
  case round =>
    obtain ⟨k, hkN, rfl, hown, hkp⟩ := hrel
    by_cases hlt : k < N
    · have HF := Lib.hid (fil_next N k hlt)
      have hlen : (L ++ (fil N).take k).length ≤ 1000000000 := by rw [List.length_append, List.length_take, hL5]; omega
      have HX := Lib.hid (show ∀ y, y = (if k = 0 then (0 : UInt8) else 255) → L ++ (fil N).take k ++ [y] = L ++ (fil N).take (k + 1) by rintro _ rfl; rw [List.append_assoc, HF.out])
      obtain ⟨M, hM⟩ : ∃ M, L ++ (fil N).take k = M := ⟨_, rfl⟩
      rw [hM] at hlen HX hown
      have HOW := Lib.hid hown
      have HKP := Lib.hid hkp
      clear hM hown hkp HF c0 c1 c2 c3 c4
      by_cases h0 : k = 0
      · subst h0
        go_wp2_with (at_builtin; refine wp_push8v rfl _ _ rfl 0 rfl _ rfl HOW.out rfl rfl hlen HKP.out ?_; intro v3 w3 o3 k3; have HO3 := Lib.hid o3; have HK3 := Lib.hid k3; clear o3 k3)
        go_roundw
        case rel => exact ⟨1, by omega, rfl, by rw [← HX.out 0 rfl]; exact HO3.out, HK3.out⟩
        case measure => simp [intOf]; omega
      · have h0I : ¬ ((k : Int) = 0) := by omega
        go_wp2_with (at_builtin; refine wp_push8v rfl _ _ rfl 255 rfl _ rfl HOW.out rfl rfl hlen HKP.out ?_; intro v3 w3 o3 k3; have HO3 := Lib.hid o3; have HK3 := Lib.hid k3; clear o3 k3)
        go_roundw
        case rel => exact ⟨k + 1, by omega, by go_num, by rw [← HX.out 255 (by rw [if_neg h0])]; exact HO3.out, HK3.out⟩
        case measure => simp [intOf]; omega
    · have hE : (fil N).take k = fil N := List.take_of_length_le (by rw [fil_length]; omega)
      rw [hE] at hown
      have hcv := hown.text
      clear c0 c1 c2 c3 c4
      have c4 := (HA.out.keeps hkp).cell 4 rfl
      have hsz : (st (L ++ fil N)).size = 5 + N := by rw [st_size, List.length_append, fil_length, hL5]
      have HKP := Lib.hid hkp
      clear hown hkp hE
      go_wp2
      go_ret
      exact ⟨rfl, HKA.out.trans HKP.out⟩
set_option maxHeartbeats 1600000 in
theorem rpkbytes113 (w0 : World) (pid count : Int) (body : ByteArray) (w : World) (hk : Keeps w0 w) (hp : 0 ≤ pid ∧ pid ≤ 8191) (hc : 0 ≤ count ∧ count ≤ 15) (hz : 0 < body.size ∧ body.size < 184) :
    Calls Tryd.prog 8 #[pkV ⟨pid, true, count, true, body⟩] w fun e w' => e = .returned (.string (st (bts ⟨pid, true, count, true, body⟩))) ∧ Keeps w0 w' := by
  obtain ⟨q, hq⟩ : ∃ q, pid / 256 = q := ⟨_, rfl⟩
  obtain ⟨r, hr⟩ : ∃ r, pid % 256 = r := ⟨_, rfl⟩
  have ed : pid.tdiv 256 = q := by rw [Int.tdiv_eq_ediv_of_nonneg hp.1]; exact hq
  have em : pid.tmod 256 = r := by rw [Int.tmod_eq_emod_of_nonneg hp.1]; exact hr
  obtain ⟨x1, hx1⟩ : ∃ x, UInt8.ofNat (pid.toNat / 256 + 128 * 1 + 64 * 1) = x := ⟨_, rfl⟩
  obtain ⟨x2, hx2⟩ : ∃ x, UInt8.ofNat (pid.toNat % 256) = x := ⟨_, rfl⟩
  obtain ⟨x3, hx3⟩ : ∃ x, UInt8.ofNat (16 * 3 + count.toNat) = x := ⟨_, rfl⟩
  have e1 : q + 128 + 64 = (x1.toNat : Int) := by
    rw [← hx1, toNat_of (show pid.toNat / 256 + 128 * 1 + 64 * 1 < 256 by omega)]
    show _ = ((pid.toNat / 256 + 128 * 1 + 64 * 1 : Nat) : Int)
    omega
  have e2 : r = (x2.toNat : Int) := by rw [← hx2, toNat_of (by omega)]; omega
  have e3 : 48 + count = (x3.toNat : Int) := by rw [← hx3, toNat_of (by omega)]; omega
  have hhd : hd ⟨pid, true, count, true, body⟩ = [71, x1, x2, x3] := by
    unfold hd
    show [71, UInt8.ofNat (pid.toNat / 256 + 128 * 1 + 64 * 1), UInt8.ofNat (pid.toNat % 256), UInt8.ofNat (16 * how body.size + count.toNat)] = _
    rw [hx1, hx2, show how body.size = 3 by unfold how; rw [if_neg (by omega), if_neg (by omega)], hx3]
  obtain ⟨N, hN⟩ : ∃ N, 183 - body.size = N := ⟨_, rfl⟩
  obtain ⟨x4, hx4⟩ : ∃ x, UInt8.ofNat N = x := ⟨_, rfl⟩
  have e4 : (N : Int) = (x4.toNat : Int) := by rw [← hx4, toNat_of (by omega)]
  have e5 : (183 : Int) - (body.size : Int) = (N : Int) := by omega
  obtain ⟨L, hL⟩ : ∃ L, [71, x1, x2, x3] ++ [x4] = L := ⟨_, rfl⟩
  have HE := Lib.hid (show st (L ++ fil N) ++ body = st (bts ⟨pid, true, count, true, body⟩) by
    rw [← hL]
    unfold bts; rw [hhd, show adp body.size = x4 :: fil N by unfold adp; rw [if_neg (by omega), hN, hx4]]
    rw [← st_ls body, st_append, ls_st]; simp)
  have hNb : N ≤ 183 := by omega
  have hb0 : (body.toList == []) = false := by
    rw [beq_eq_false_iff_ne, ls_toList]; intro e
    have h3 := ls_size body; rw [e] at h3
    have h4 := hz.1
    rw [h3] at h4
    exact absurd h4 (by decide)
  rw [← HE.out]
  obtain ⟨hp1, hp2⟩ := hp
  obtain ⟨hc1, hc2⟩ := hc
  have hq1 : 0 ≤ q := by omega
  have hq2 : q ≤ 31 := by omega
  have hr1 : 0 ≤ r := by omega
  have hr2 : r ≤ 255 := by omega
  have HE4 := Lib.hid e4
  have wr1 := wrapI (a := q) (by omega) (by omega)
  have wr2 := wrapI (a := q + 128) (by omega) (by omega)
  have wr3 := wrapI (a := q + 64) (by omega) (by omega)
  have wr4 := wrapI (a := q + 128 + 64) (by omega) (by omega)
  have wr5 := wrapI (a := r) (by omega) (by omega)
  have wr6 := wrapI (a := 48 + count) (by omega) (by omega)
  have HK := Lib.hid hk
  obtain ⟨b, hb⟩ : ∃ b, w.heap.size = b := ⟨_, rfl⟩
  have hbs := Below.size hk
  rw [hb] at hbs
  obtain ⟨wA, hA⟩ : ∃ wX, w.alloc (.cells #[.int .i64 pid, .bool true, .int .i64 count, .bool true, .string body] 29) = wX := ⟨_, rfl⟩
  have HA := Lib.hid (show CsAt b (pkC ⟨pid, true, count, true, body⟩) wA by rw [← hb, ← hA]; exact CsAt.made w #[.int .i64 pid, .bool true, .int .i64 count, .bool true, .string body] _ (by simp))
  have HKA := Lib.hid (show Keeps w0 wA by rw [← hA]; exact hk.alloc _)
  have hsA : wA.heap.size = b + 1 := by rw [← hA, World.size_alloc, hb]
  have HO := Lib.hid (own_lit8 (n := 4) wA wA.heap.size [71, x1, x2, x3] #[.int .u8 71, .int .u8 (q + 128 + 64), .int .u8 r, .int .u8 (48 + count)] (by rw [e1, e2, e3]; rfl) rfl (by decide) (Nat.le_refl _) hsA)
  have c0 := HA.out.cell 0 rfl
  have c1 := HA.out.cell 1 rfl
  have c2 := HA.out.cell 2 rfl
  have c3 := HA.out.cell 3 rfl
  have c4 := HA.out.cell 4 rfl
  clear hk hx1 hx2 hx3 hhd hq hr e1 e2 e3 e4 hx4
  have hz4 : ¬ ((body.size : Int) = 184) := by omega
  have hL5 : L.length = 5 := by rw [← hL]; rfl
  have HL := Lib.hid hL
  clear hL hz hN
  go_enter Tryd.func8, Tryd.ntmps8
  go_wp2_with (at_builtin; refine wp_push8v rfl _ _ rfl x4 (by unfold B; rw [HE4.out]) (b + 1 + 1) (by rw [World.size_alloc, hsA]) HO.out rfl rfl (by show 4 ≤ 1000000000; decide) ((Keeps.refl wA).alloc _) ?_; intro v2 w2 o2 k2; rw [HL.out] at o2; have HO2 := Lib.hid o2; have HK2 := Lib.hid k2; clear o2 k2)
  go_loopw [5, 7] (fun v i wr => pkbRel wA L N v i wr) (fun _ i _ => N - (intOf i).toNat)
  case atStart => exact ⟨0, by omega, rfl, by rw [List.take_zero, List.append_nil]; exact HO2.out, HK2.out⟩
  case round =>
    obtain ⟨k, hkN, rfl, hown, hkp⟩ := hrel
    by_cases hlt : k < N
    · have HF := Lib.hid (fil_next N k hlt)
      have hlen : (L ++ (fil N).take k).length ≤ 1000000000 := by rw [List.length_append, List.length_take, hL5]; omega
      have HX := Lib.hid (show ∀ y, y = (if k = 0 then (0 : UInt8) else 255) → L ++ (fil N).take k ++ [y] = L ++ (fil N).take (k + 1) by rintro _ rfl; rw [List.append_assoc, HF.out])
      obtain ⟨M, hM⟩ : ∃ M, L ++ (fil N).take k = M := ⟨_, rfl⟩
      rw [hM] at hlen HX hown
      have HOW := Lib.hid hown
      have HKP := Lib.hid hkp
      clear hM hown hkp HF c0 c1 c2 c3 c4
      by_cases h0 : k = 0
      · subst h0
        go_wp2_with (at_builtin; refine wp_push8v rfl _ _ rfl 0 rfl _ rfl HOW.out rfl rfl hlen HKP.out ?_; intro v3 w3 o3 k3; have HO3 := Lib.hid o3; have HK3 := Lib.hid k3; clear o3 k3)
        go_roundw
        case rel => exact ⟨1, by omega, rfl, by rw [← HX.out 0 rfl]; exact HO3.out, HK3.out⟩
        case measure => simp [intOf]; omega
      · have h0I : ¬ ((k : Int) = 0) := by omega
        go_wp2_with (at_builtin; refine wp_push8v rfl _ _ rfl 255 rfl _ rfl HOW.out rfl rfl hlen HKP.out ?_; intro v3 w3 o3 k3; have HO3 := Lib.hid o3; have HK3 := Lib.hid k3; clear o3 k3)
        go_roundw
        case rel => exact ⟨k + 1, by omega, by go_num, by rw [← HX.out 255 (by rw [if_neg h0])]; exact HO3.out, HK3.out⟩
        case measure => simp [intOf]; omega
    · have hE : (fil N).take k = fil N := List.take_of_length_le (by rw [fil_length]; omega)
      rw [hE] at hown
      have hcv := hown.text
      clear c0 c1 c2 c3 c4
      have c4 := (HA.out.keeps hkp).cell 4 rfl
      have hsz : (st (L ++ fil N)).size = 5 + N := by rw [st_size, List.length_append, fil_length, hL5]
      have HKP := Lib.hid hkp
      clear hown hkp hE
      go_wp2
      go_ret
      exact ⟨rfl, HKA.out.trans HKP.out⟩
theorem rpkbytes_any (w0 : World) (p : Pkt) (w : World) (h : ckP p = 0) (hk : Keeps w0 w) : Calls Tryd.prog 8 #[pkV p] w fun e w' => e = .returned (.string (st (bts p))) ∧ Keeps w0 w' := by
  obtain ⟨⟨hp, hc⟩, hz⟩ := ckP_good h
  obtain ⟨pid, start, count, bad, body⟩ := p
  simp only at hp hc hz
  clear h
  by_cases h1 : body.size = 184
  · cases bad <;> cases start
    · exact rpkbytes001 w0 pid count body w hk hp hc h1
    · exact rpkbytes011 w0 pid count body w hk hp hc h1
    · exact rpkbytes101 w0 pid count body w hk hp hc h1
    · exact rpkbytes111 w0 pid count body w hk hp hc h1
  · by_cases h0 : body.size = 0
    · cases bad <;> cases start
      · exact rpkbytes002 w0 pid count body w hk hp hc h0
      · exact rpkbytes012 w0 pid count body w hk hp hc h0
      · exact rpkbytes102 w0 pid count body w hk hp hc h0
      · exact rpkbytes112 w0 pid count body w hk hp hc h0
    · have h2 : 0 < body.size ∧ body.size < 184 := by omega
      cases bad <;> cases start
      · exact rpkbytes003 w0 pid count body w hk hp hc h2
      · exact rpkbytes013 w0 pid count body w hk hp hc h2
      · exact rpkbytes103 w0 pid count body w hk hp hc h2
      · exact rpkbytes113 w0 pid count body w hk hp hc h2
-- END BYTES
-- DECODE
def PkdPost (w0 : World) (r : Pkt × Int) (e : Ending) (w' : World) : Prop := e = .returned (.tuple #[pkV r.1, .int .i64 r.2]) ∧ Keeps w0 w'
theorem PkdPost.of {w0 W : World} {r : Pkt × Int} {p : Pkt} {n : Int} (e : r = (p, n)) (k : Keeps w0 W) : PkdPost w0 r (.returned (.tuple #[pkV p, .int .i64 n])) W := by rw [e]; exact ⟨rfl, k⟩
theorem pk_nums {l : List UInt8} {x1 x2 x3 : UInt8} {b : ByteArray} (e1 : cf l 1 = x1) (e2 : cf l 2 = x2) (e3 : cf l 3 = x3) (eB : st (l.drop (frm l)) = b) : dcP l = ⟨(x1.toNat : Int) % 32 * 256 + (x2.toNat : Int), (x1.toNat : Int) / 64 % 2 == 1, (x3.toNat : Int) % 16, (x1.toNat : Int) / 128 == 1, b⟩ := by
  unfold dcP
  rw [e1, e2, e3, eB]
  have b1 : decide (x1.toNat / 64 % 2 = 1) = ((x1.toNat : Int) / 64 % 2 == 1) := by
    by_cases h : x1.toNat / 64 % 2 = 1
    · rw [decide_eq_true h]; symm; rw [beq_iff_eq]; omega
    · rw [decide_eq_false h]; symm; rw [beq_eq_false_iff_ne]; omega
  have b2 : decide (x1.toNat / 128 = 1) = ((x1.toNat : Int) / 128 == 1) := by
    by_cases h : x1.toNat / 128 = 1
    · rw [decide_eq_true h]; symm; rw [beq_iff_eq]; omega
    · rw [decide_eq_false h]; symm; rw [beq_eq_false_iff_ne]; omega
  rw [b1, b2]
  congr 1
theorem fdR_some {l : List UInt8} {a : Nat} (h : isFind l (some a)) : fdR l = (a : Int) := by unfold fdR; rw [fnd_eq h]
theorem fdR_none {l : List UInt8} (h : isFind l none) : fdR l = -1 := by unfold fdR; rw [fnd_eq h]
def fdOut (l : List UInt8) (a : Value) : Prop := ∃ k : Nat, k ≤ 188 ∧ k ≤ l.length ∧ a = .int .i64 (k : Int) ∧ noneB l k
def fdIn (l : List UInt8) (k : Nat) (r i : Value) : Prop := ∃ (n : Nat) (t : Bool), k + 188 * n ≤ l.length + 187 ∧ i = .int .i64 ((k + 188 * n : Nat) : Int) ∧ r = .bool t ∧ (t = true ↔ upto l k n)
end Go.Proofs.YtaabfkffemnidaaDoor
