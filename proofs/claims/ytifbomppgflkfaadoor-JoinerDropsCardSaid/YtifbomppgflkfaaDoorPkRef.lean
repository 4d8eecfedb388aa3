/-
  What the document's Check, Bytes, Decode and Find of packets answer, and the law's own bytes. The memory that was there stays.
-/
import Derived.Test.YtifbomppgflkfaaDoorPkV
namespace Go.Proofs.YtifbomppgflkfaaDoor
open Go.RowKit Gf Pk
set_option maxRecDepth 100000
/-- n bytes of one. -/
def byN (n : Nat) (b : UInt8) : List UInt8 := List.replicate n b
theorem byN_length (n : Nat) (b : UInt8) : (byN n b).length = n := List.length_replicate
theorem cf_byN {n i : Nat} (b : UInt8) (h : i < n) : cf (byN n b) i = b := by
  rw [cf_lt (by rw [byN_length]; exact h)]; simp [byN]
def byRel (wA : World) (rb n : Nat) (b : UInt8) (i : Value) (wr : World) : Prop := ∃ (k : Nat) (l : List UInt8), k ≤ n ∧ i = .int .i64 (k : Int) ∧ l.length = n ∧ (∀ j, j < k → cf l j = b) ∧ Blk rb l wr ∧ Only rb wA wr
/-- The document's Check. -/
def PkkPost (w0 : World) (p : Pkt) (e : Ending) (w' : World) : Prop := e = .returned (.int .i64 (ckP p)) ∧ Keeps w0 w'
theorem PkkPost.of {w0 W : World} {p : Pkt} {n : Int} (e : ckP p = n) (k : Keeps w0 W) : PkkPost w0 p (.returned (.int .i64 n)) W := ⟨by rw [e], k⟩
set_option maxHeartbeats 1600000 in
theorem rpkcheck_any (w0 : World) (p : Pkt) (w : World) (hk : Keeps w0 w) : Calls Tryd.prog 25 #[pkV p] w (PkkPost w0 p) := by
  have HK := Lib.hid hk
  have HC := Lib.hid (fun n W => PkkPost.of (w0 := w0) (p := p) (n := n) (W := W))
  by_cases h1 : p.pid < 0
  · have HE := Lib.hid (ckP_no (p := p) fun x => by have := x.1.1; omega)
    obtain ⟨pid, start, count, bad, body⟩ := p
    simp only at h1
    clear hk
    go_enter Tryd.func25, Tryd.ntmps25
    go_wp2
    go_ret
    exact HC.out _ _ HE.out (HK.out.alloc _)
  by_cases h2 : 8191 < p.pid
  · have HE := Lib.hid (ckP_no (p := p) fun x => by have := x.1.2; omega)
    obtain ⟨pid, start, count, bad, body⟩ := p
    simp only at h1 h2
    clear hk
    go_enter Tryd.func25, Tryd.ntmps25
    go_wp2
    go_ret
    exact HC.out _ _ HE.out (HK.out.alloc _)
  by_cases h3 : p.count < 0
  · have HE := Lib.hid (ckP_no (p := p) fun x => by have := x.2.1; omega)
    obtain ⟨pid, start, count, bad, body⟩ := p
    simp only at h1 h2 h3
    clear hk
    go_enter Tryd.func25, Tryd.ntmps25
    go_wp2
    go_ret
    exact HC.out _ _ HE.out (HK.out.alloc _)
  by_cases h4 : 15 < p.count
  · have HE := Lib.hid (ckP_no (p := p) fun x => by have := x.2.2; omega)
    obtain ⟨pid, start, count, bad, body⟩ := p
    simp only at h1 h2 h3 h4
    clear hk
    go_enter Tryd.func25, Tryd.ntmps25
    go_wp2
    go_ret
    exact HC.out _ _ HE.out (HK.out.alloc _)
  have hr : okP p := ⟨⟨by omega, by omega⟩, by omega, by omega⟩
  by_cases h5 : 184 < p.body.size
  · have HE := Lib.hid (ckP_full hr h5)
    obtain ⟨pid, start, count, bad, body⟩ := p
    simp only at h1 h2 h3 h4 h5
    have h5i : (184 : Int) < (body.size : Int) := by omega
    clear hk hr
    go_enter Tryd.func25, Tryd.ntmps25
    go_wp2
    go_ret
    exact HC.out _ _ HE.out (HK.out.alloc _)
  · have HE := Lib.hid (ckP_ok hr h5)
    obtain ⟨pid, start, count, bad, body⟩ := p
    simp only at h1 h2 h3 h4 h5
    have h5i : ¬ (184 : Int) < (body.size : Int) := by omega
    clear hk hr
    go_enter Tryd.func25, Tryd.ntmps25
    go_wp2
    go_ret
    exact HC.out _ _ HE.out (HK.out.alloc _)
-- BYTES
theorem own_lit8 (w : World) (base : Nat) (l : List UInt8) (cs : Array Value) (hc : (l.map B).toArray = cs) {n : Nat} (hn : l.length = n) (h : n ≤ 1000000) (hb : base ≤ w.heap.size) {H : Nat} (hH : w.heap.size = H) : Own (w.alloc (.cells cs 5)) base (.slice (some ⟨H, 0, none⟩) n n) l := by
  subst hH; subst hc; subst hn
  unfold Own
  have e : l.map B = (l.map B).toArray.toList := rfl
  rw [e]
  exact World.ownsRow_lit w _ l.length hb (by unfold maxLen; omega) (by simp)
/-- 'v = append(v, y)', y a constant or a byte. -/
theorem wp_push8v {ops : Array Oper} {rest : List Oper} {o : Oper} {a : Act} {Q : Exit → Act → World → Prop} {wr : World} (hgd : o.guard = none) (s x : Operand)
    (ho : o.op = .call { callee := .builtin .append, args := #[s, x], argTypes := #[79, 79] }) {w0 : World} {v : Value} {l : List UInt8} (y : UInt8) {yv : Value} (hyv : yv = B y) (H : Nat) (hH : wr.heap.size = H) (hown : Own wr w0.heap.size v l)
    (hs : a.eval s = v) (hx : a.eval x = .slice (some ⟨H, 0, none⟩) 1 1) (hl : l.length ≤ 1000000000) (hk : Keeps w0 wr)
    (h : ∀ v' w', Own w' w0.heap.size v' (l ++ [y]) → Keeps w0 w' → wpList Tryd.prog ops Q rest (a.put o.dst v') w') :
    wpList Tryd.prog ops Q (o :: rest) a (wr.alloc (.cells #[yv] 5)) := by
  subst hyv
  subst hH
  exact wp_push8 hgd s x ho y hown hs hx hl hk h
theorem fil_next (n k : Nat) (h : k < n) : (fil n).take k ++ [if k = 0 then 0 else 255] = (fil n).take (k + 1) := by
  unfold fil
  rw [List.take_add_one, List.getElem?_map, List.getElem?_range h]; rfl
def pkbRel (w0 : World) (L : List UInt8) (n : Nat) (v i : Value) (wr : World) : Prop := ∃ k : Nat, k ≤ n ∧ i = .int .i64 (k : Int) ∧ Own wr w0.heap.size v (L ++ (fil n).take k) ∧ Keeps w0 wr
def PkdPost (w0 : World) (r : Pkt × Int) (e : Ending) (w' : World) : Prop := e = .returned (.tuple #[pkV r.1, .int .i64 r.2]) ∧ Keeps w0 w'
theorem PkdPost.of {w0 W : World} {r : Pkt × Int} {p : Pkt} {n : Int} (e : r = (p, n)) (k : Keeps w0 W) : PkdPost w0 r (.returned (.tuple #[pkV p, .int .i64 n])) W := by rw [e]; exact ⟨rfl, k⟩
theorem pk_nums {l : List UInt8} {x1 x2 x3 : UInt8} {b : ByteArray} (e1 : cf l 1 = x1) (e2 : cf l 2 = x2) (e3 : cf l 3 = x3) (eB : st (l.drop (frm l)) = b) : dcP l = ⟨(x1.toNat : Int) % 32 * 256 + (x2.toNat : Int), (x1.toNat : Int) / 64 % 2 == 1, (x3.toNat : Int) % 16, (x1.toNat : Int) / 128 == 1, b⟩ := by
  unfold dcP
  rw [e1, e2, e3, eB]
  have b1 : decide (x1.toNat / 64 % 2 = 1) = ((x1.toNat : Int) / 64 % 2 == 1) := by
    by_cases h : x1.toNat / 64 % 2 = 1
    · rw [decide_eq_true h]; symm; rw [beq_iff_eq]; omega
    · rw [decide_eq_false h]; symm; rw [beq_eq_false_iff_ne]; omega
  have b2 : decide (x1.toNat / 128 = 1) = ((x1.toNat : Int) / 128 == 1) := by
    by_cases h : x1.toNat / 128 = 1
    · rw [decide_eq_true h]; symm; rw [beq_iff_eq]; omega
    · rw [decide_eq_false h]; symm; rw [beq_eq_false_iff_ne]; omega
  rw [b1, b2]
  congr 1
set_option maxHeartbeats 6400000 in
theorem rpkdecode_any (w0 : World) (s : ByteArray) (w : World) (hs : s.size ≤ 1000000) (hk : Keeps w0 w) : Calls Tryd.prog 18 #[.string s] w (PkdPost w0 (dc (ls s))) := by
  obtain ⟨b, hb⟩ : ∃ b, w.heap.size = b := ⟨_, rfl⟩
  obtain ⟨wA, hA⟩ : ∃ wX, w.alloc (.cells #[.int .i64 0, .bool false, .int .i64 0, .bool false, .string ⟨#[]⟩] 37) = wX := ⟨_, rfl⟩
  have A0 := Lib.hid (show CsAns w0 b (pkC pk0) wA from CsAns.start hk (by simp) hb hA)
  have hl := ls_size s
  by_cases h1 : s.size < 188
  · have HD := Lib.hid (show dc (ls s) = (pk0, 10) by rw [dc_no (by rw [dcE_short (by omega)]; decide), dcE_short (by omega)])
    have h1i : (s.size : Int) < 188 := by omega
    clear hl hk
    go_enter Tryd.func18, Tryd.ntmps18
    go_wp2_with (refine wp_stQ (b := b) (off := 0) pk0 (A0.out.z.there (show 0 + 5 ≤ 5 by decide)) rfl _ _ rfl rfl rfl ?_)
    have E := A0.out.ends (pkC pk0) rfl
    exact cs_ret2 Tryd.results18 (lvQ (s := pk0) E.z.r) rfl rfl rfl (PkdPost.of HD.out E.k)
  by_cases h2 : 188 < s.size
  · have HD := Lib.hid (show dc (ls s) = (pk0, 11) by rw [dc_no (by rw [dcE_long (by omega)]; decide), dcE_long (by omega)])
    have h1i : ¬ (s.size : Int) < 188 := by omega
    have h2i : (188 : Int) < (s.size : Int) := by omega
    clear hl hk
    go_enter Tryd.func18, Tryd.ntmps18
    go_wp2_with (refine wp_stQ (b := b) (off := 0) pk0 (A0.out.z.there (show 0 + 5 ≤ 5 by decide)) rfl _ _ rfl rfl rfl ?_)
    have E := A0.out.ends (pkC pk0) rfl
    exact cs_ret2 Tryd.results18 (lvQ (s := pk0) E.z.r) rfl rfl rfl (PkdPost.of HD.out E.k)
  have hll : (ls s).length = 188 := by omega
  have h1i : ¬ (s.size : Int) < 188 := by omega
  have h2i : ¬ (188 : Int) < (s.size : Int) := by omega
  obtain ⟨x0, e0⟩ : ∃ x, cf (ls s) 0 = x := ⟨_, rfl⟩
  have z0 : 0 < s.size := by omega
  have g0 : s[0] = x0 := by rw [ls_get s 0 z0, e0]
  have i0 : (0 : Int) < (s.size : Int) := by omega
  by_cases h3 : x0 = 71
  · subst h3
    obtain ⟨x1, e1⟩ : ∃ x, cf (ls s) 1 = x := ⟨_, rfl⟩
    obtain ⟨x2, e2⟩ : ∃ x, cf (ls s) 2 = x := ⟨_, rfl⟩
    obtain ⟨x3, e3⟩ : ∃ x, cf (ls s) 3 = x := ⟨_, rfl⟩
    obtain ⟨x4, e4⟩ : ∃ x, cf (ls s) 4 = x := ⟨_, rfl⟩
    have z1 : 1 < s.size := by omega
    have z2 : 2 < s.size := by omega
    have z3 : 3 < s.size := by omega
    have z4 : 4 < s.size := by omega
    have g1 : s[1] = x1 := by rw [ls_get s 1 z1, e1]
    have g2 : s[2] = x2 := by rw [ls_get s 2 z2, e2]
    have g3 : s[3] = x3 := by rw [ls_get s 3 z3, e3]
    have g4 : s[4] = x4 := by rw [ls_get s 4 z4, e4]
    have i1 : (1 : Int) < (s.size : Int) := by omega
    have i2 : (2 : Int) < (s.size : Int) := by omega
    have i3 : (3 : Int) < (s.size : Int) := by omega
    have i4 : (4 : Int) < (s.size : Int) := by omega
    have y1 := u8_bd x1
    have y2 := u8_bd x2
    have y3 := u8_bd x3
    have y4 := u8_bd x4
    have hw0 : hw (ls s) = x3.toNat / 16 % 4 := by unfold hw; rw [e3]
    obtain ⟨H, hH⟩ : ∃ H : Int, (x3.toNat : Int) / 16 % 4 = H := ⟨_, rfl⟩
    have HN := Lib.hid (fun b (eB : st ((ls s).drop (frm (ls s))) = b) => pk_nums e1 e2 e3 eB)
    have HR := Lib.hid (show (H = 0 → dc (ls s) = (pk0, 12)) ∧ (H = 1 → dc (ls s) = (dcP (ls s), 0) ∧ frm (ls s) = 4) ∧ (H = 2 → ((x4.toNat : Int) = 183 → dc (ls s) = (dcP (ls s), 0) ∧ frm (ls s) = 188) ∧ ((x4.toNat : Int) ≠ 183 → dc (ls s) = (pk0, 12))) ∧ (H = 3 → ((x4.toNat : Int) ≤ 182 → dc (ls s) = (dcP (ls s), 0) ∧ frm (ls s) = 5 + x4.toNat) ∧ (182 < (x4.toNat : Int) → dc (ls s) = (pk0, 12))) by
      refine ⟨fun h => ?_, fun h => ⟨dc_ok (dcE_1 hll e0 (by omega)), by unfold frm; rw [if_pos (by omega)]⟩, fun h => ⟨fun n => ⟨dc_ok (dcE_2 hll e0 (by omega) (by rw [e4]; omega)), by unfold frm; rw [if_neg (by omega), if_pos (by omega)]⟩, fun n => ?_⟩, fun h => ⟨fun n => ⟨dc_ok (dcE_3 hll e0 (by omega) (by rw [e4]; omega)), by unfold frm; rw [if_neg (by omega), if_neg (by omega), e4]⟩, fun n => ?_⟩⟩
      · have := dcE_0 hll e0 (by omega); rw [dc_no (by rw [this]; decide), this]
      · have := dcE_2no hll e0 (by omega) (by rw [e4]; omega); rw [dc_no (by rw [this]; decide), this]
      · have := dcE_3no hll e0 (by omega) (by rw [e4]; omega); rw [dc_no (by rw [this]; decide), this])
    have hH4 : H = 0 ∨ H = 1 ∨ H = 2 ∨ H = 3 := by omega
    have wr0 : ∀ x : UInt8, IntKind.i64.wrap (x.toNat : Int) = (x.toNat : Int) := fun x => wrapI (by have := u8_bd x; omega) (by have := u8_bd x; omega)
    have td1 : (x1.toNat : Int).tmod 32 = (x1.toNat : Int) % 32 := Int.tmod_eq_emod_of_nonneg (by omega)
    have td2 : (x1.toNat : Int).tdiv 64 = (x1.toNat : Int) / 64 := Int.tdiv_eq_ediv_of_nonneg (by omega)
    have td3 : ((x1.toNat : Int) / 64).tmod 2 = (x1.toNat : Int) / 64 % 2 := Int.tmod_eq_emod_of_nonneg (by omega)
    have td4 : (x1.toNat : Int).tdiv 128 = (x1.toNat : Int) / 128 := Int.tdiv_eq_ediv_of_nonneg (by omega)
    have td5 : (x3.toNat : Int).tmod 16 = (x3.toNat : Int) % 16 := Int.tmod_eq_emod_of_nonneg (by omega)
    have td6 : (x3.toNat : Int).tdiv 16 = (x3.toNat : Int) / 16 := Int.tdiv_eq_ediv_of_nonneg (by omega)
    have td7 : ((x3.toNat : Int) / 16).tmod 4 = H := by rw [Int.tmod_eq_emod_of_nonneg (by omega)]; exact hH
    have wr1 := wrapI (a := (x1.toNat : Int) % 32) (by omega) (by omega)
    have wr2 := wrapI (a := (x1.toNat : Int) % 32 * 256) (by omega) (by omega)
    have wr3 := wrapI (a := (x1.toNat : Int) % 32 * 256 + (x2.toNat : Int)) (by omega) (by omega)
    have wr4 := wrapI (a := (x1.toNat : Int) / 64) (by omega) (by omega)
    have wr5 := wrapI (a := (x1.toNat : Int) / 64 % 2) (by omega) (by omega)
    have wr6 := wrapI (a := (x1.toNat : Int) / 128) (by omega) (by omega)
    have wr7 := wrapI (a := (x3.toNat : Int) / 16) (by omega) (by omega)
    have wr8 := wrapI (a := (x3.toNat : Int) % 16) (by omega) (by omega)
    have wr9 := wrapI (a := 5 + (x4.toNat : Int)) (by omega) (by omega)
    have HXT := Lib.hid (fun (k : Nat) (hk : k ≤ 188) => show s.extract k s.size = st ((ls s).drop k) by rw [← st_ls (s.extract k s.size), ls_part]; congr 1; exact List.take_of_length_le (by rw [List.length_drop]; omega))
    obtain ⟨X, hX⟩ : ∃ X : Obj, X = .cells #[.int .i64 0, .bool false, .int .i64 0, .bool false, .string ⟨#[]⟩] 37 := ⟨_, rfl⟩
    have HXX := Lib.hid hX
    clear hX hl hk e0 e1 e2 e3 e4 hw0 hH h1 h2 hll
    go_enter Tryd.func18, Tryd.ntmps18
    go_wp2
    refine wp_draw_tail 26 (by kernel_rfl) [.string s, .int .u8 (x1.toNat : Int), .int .i64 (x1.toNat : Int), .int .i64 ((x1.toNat : Int) % 32), .int .i64 ((x1.toNat : Int) % 32 * 256), .string s, .int .u8 (x2.toNat : Int), .int .i64 (x2.toNat : Int), .int .i64 ((x1.toNat : Int) % 32 * 256 + (x2.toNat : Int)), .string s, .int .u8 (x1.toNat : Int), .int .i64 (x1.toNat : Int), .int .i64 ((x1.toNat : Int) / 64), .int .i64 ((x1.toNat : Int) / 64 % 2), .bool ((x1.toNat : Int) / 64 % 2 == 1), .string s, .int .u8 (x1.toNat : Int), .int .i64 (x1.toNat : Int), .int .i64 ((x1.toNat : Int) / 128), .bool ((x1.toNat : Int) / 128 == 1), .string s, .int .u8 (x3.toNat : Int), .int .i64 (x3.toNat : Int), .int .i64 ((x3.toNat : Int) % 16), pkV ⟨(x1.toNat : Int) % 32 * 256 + (x2.toNat : Int), (x1.toNat : Int) / 64 % 2 == 1, (x3.toNat : Int) % 16, (x1.toNat : Int) / 128 == 1, ⟨#[]⟩⟩, .pointer (some ⟨wA.heap.size, 0, none⟩)]
      (Once 25 (Eqv wA) (Eqv (wA.alloc X))) rfl (by kernel_rfl) (by kernel_rfl) (fin := ?fin) ?hfin (Once.start (Eqv.drew wA)) ?each ?hend
    case hfin => simp [seqA, dstOf, Act.put]; rfl
    case each =>
      refine ⟨?_, ?_, ?_, ?_, ?_, ?_, ?_, ?_, ?_, ?_, ?_, ?_, ?_, ?_, ?_, ?_, ?_, ?_, ?_, ?_, ?_, ?_, ?_, ?_, ?_, ?_, trivial⟩
      all_goals intro L w5 h0 hd hs hw
      all_goals unfold Does
      all_goals try simp only [Nat.zero_add, Nat.reduceAdd] at h0
      rotate_left 25
      · have hA := hw.1 h0
        have hz := hA.size
        go_simp
        exact fun L' k => Once.done k (by rw [HXX.out]; exact hA.alloc _)
      all_goals (go_simp; exact fun L' k => hw.same (by decide) k)
    case hend =>
    intro L w5 hL hw
    obtain ⟨w3, rfl, he⟩ := (hw.2 (hL 25 (by omega))).split
    clear hL hw
    rw [HXX.out, ← he.size]
    simp only [List.drop_succ_cons, List.drop_zero]
    have A3 := Lib.hid (A0.out.eqv he)
    clear he
    rcases hH4 with rfl | rfl | rfl | rfl
    · have HQ := Lib.hid (HR.out.1 rfl)
      go_wp2_with (refine wp_stQ (b := b) (off := 0) pk0 ((A3.out.alloc _).z.there (show 0 + 5 ≤ 5 by decide)) rfl _ _ rfl rfl rfl ?_)
      have E := (A3.out.alloc (.cells (pkC ⟨(x1.toNat : Int) % 32 * 256 + (x2.toNat : Int), (x1.toNat : Int) / 64 % 2 == 1, (x3.toNat : Int) % 16, (x1.toNat : Int) / 128 == 1, ⟨#[]⟩⟩).toArray 37)).ends (pkC pk0) rfl
      exact cs_ret2 Tryd.results18 (lvQ (s := pk0) E.z.r) rfl rfl rfl (PkdPost.of HQ.out E.k)
    · obtain ⟨q1, q2⟩ := HR.out.2.1 rfl
      have HE := HN.out _ rfl
      rw [q2] at HE
      have gB := HXT.out 4 (by decide)
      obtain ⟨B, hB⟩ : ∃ B, st ((ls s).drop 4) = B := ⟨_, rfl⟩
      rw [hB] at HE gB
      have HQ := Lib.hid (show dc (ls s) = (⟨(x1.toNat : Int) % 32 * 256 + (x2.toNat : Int), (x1.toNat : Int) / 64 % 2 == 1, (x3.toNat : Int) % 16, (x1.toNat : Int) / 128 == 1, B⟩, 0) by rw [q1, HE])
      have i44 : (4 : Int) ≤ (s.size : Int) := by omega
      clear hB q1 q2 HE
      go_wp2_with (refine wp_stQ (b := b) (off := 0) ⟨(x1.toNat : Int) % 32 * 256 + (x2.toNat : Int), (x1.toNat : Int) / 64 % 2 == 1, (x3.toNat : Int) % 16, (x1.toNat : Int) / 128 == 1, B⟩ ((A3.out.alloc _).z.there (show 0 + 5 ≤ 5 by decide)) rfl _ _ rfl rfl rfl ?_)
      have E := (A3.out.alloc (.cells (pkC ⟨(x1.toNat : Int) % 32 * 256 + (x2.toNat : Int), (x1.toNat : Int) / 64 % 2 == 1, (x3.toNat : Int) % 16, (x1.toNat : Int) / 128 == 1, B⟩).toArray 37)).ends (pkC ⟨(x1.toNat : Int) % 32 * 256 + (x2.toNat : Int), (x1.toNat : Int) / 64 % 2 == 1, (x3.toNat : Int) % 16, (x1.toNat : Int) / 128 == 1, B⟩) rfl
      exact cs_ret2 Tryd.results18 (lvQ (s := ⟨(x1.toNat : Int) % 32 * 256 + (x2.toNat : Int), (x1.toNat : Int) / 64 % 2 == 1, (x3.toNat : Int) % 16, (x1.toNat : Int) / 128 == 1, B⟩) E.z.r) rfl rfl rfl (PkdPost.of HQ.out E.k)
    · by_cases hn : (x4.toNat : Int) = 183
      · obtain ⟨q1, q2⟩ := (HR.out.2.2.1 rfl).1 hn
        have HE := HN.out _ rfl
        rw [q2, show (ls s).drop 188 = [] from List.drop_of_length_le (by rw [← ls_size]; omega)] at HE
        have HQ := Lib.hid (show dc (ls s) = (⟨(x1.toNat : Int) % 32 * 256 + (x2.toNat : Int), (x1.toNat : Int) / 64 % 2 == 1, (x3.toNat : Int) % 16, (x1.toNat : Int) / 128 == 1, ⟨#[]⟩⟩, 0) by rw [q1, HE]; rfl)
        clear q1 q2 HE
        go_wp2_with (refine wp_stQ (b := b) (off := 0) ⟨(x1.toNat : Int) % 32 * 256 + (x2.toNat : Int), (x1.toNat : Int) / 64 % 2 == 1, (x3.toNat : Int) % 16, (x1.toNat : Int) / 128 == 1, ⟨#[]⟩⟩ ((A3.out.alloc _).z.there (show 0 + 5 ≤ 5 by decide)) rfl _ _ rfl rfl rfl ?_)
        have E := (A3.out.alloc (.cells (pkC ⟨(x1.toNat : Int) % 32 * 256 + (x2.toNat : Int), (x1.toNat : Int) / 64 % 2 == 1, (x3.toNat : Int) % 16, (x1.toNat : Int) / 128 == 1, ⟨#[]⟩⟩).toArray 37)).ends (pkC ⟨(x1.toNat : Int) % 32 * 256 + (x2.toNat : Int), (x1.toNat : Int) / 64 % 2 == 1, (x3.toNat : Int) % 16, (x1.toNat : Int) / 128 == 1, ⟨#[]⟩⟩) rfl
        exact cs_ret2 Tryd.results18 (lvQ (s := ⟨(x1.toNat : Int) % 32 * 256 + (x2.toNat : Int), (x1.toNat : Int) / 64 % 2 == 1, (x3.toNat : Int) % 16, (x1.toNat : Int) / 128 == 1, ⟨#[]⟩⟩) E.z.r) rfl rfl rfl (PkdPost.of HQ.out E.k)
      · have HQ := Lib.hid ((HR.out.2.2.1 rfl).2 hn)
        go_wp2_with (refine wp_stQ (b := b) (off := 0) pk0 ((A3.out.alloc _).z.there (show 0 + 5 ≤ 5 by decide)) rfl _ _ rfl rfl rfl ?_)
        have E := (A3.out.alloc (.cells (pkC ⟨(x1.toNat : Int) % 32 * 256 + (x2.toNat : Int), (x1.toNat : Int) / 64 % 2 == 1, (x3.toNat : Int) % 16, (x1.toNat : Int) / 128 == 1, ⟨#[]⟩⟩).toArray 37)).ends (pkC pk0) rfl
        exact cs_ret2 Tryd.results18 (lvQ (s := pk0) E.z.r) rfl rfl rfl (PkdPost.of HQ.out E.k)
    · by_cases hn : 182 < (x4.toNat : Int)
      · have HQ := Lib.hid ((HR.out.2.2.2 rfl).2 hn)
        go_wp2_with (refine wp_stQ (b := b) (off := 0) pk0 ((A3.out.alloc _).z.there (show 0 + 5 ≤ 5 by decide)) rfl _ _ rfl rfl rfl ?_)
        have E := (A3.out.alloc (.cells (pkC ⟨(x1.toNat : Int) % 32 * 256 + (x2.toNat : Int), (x1.toNat : Int) / 64 % 2 == 1, (x3.toNat : Int) % 16, (x1.toNat : Int) / 128 == 1, ⟨#[]⟩⟩).toArray 37)).ends (pkC pk0) rfl
        exact cs_ret2 Tryd.results18 (lvQ (s := pk0) E.z.r) rfl rfl rfl (PkdPost.of HQ.out E.k)
      · obtain ⟨q1, q2⟩ := (HR.out.2.2.2 rfl).1 (by omega)
        have HE := HN.out _ rfl
        rw [q2] at HE
        have gB := HXT.out (5 + x4.toNat) (by omega)
        obtain ⟨B, hB⟩ : ∃ B, st ((ls s).drop (5 + x4.toNat)) = B := ⟨_, rfl⟩
        rw [hB] at HE gB
        have HQ := Lib.hid (show dc (ls s) = (⟨(x1.toNat : Int) % 32 * 256 + (x2.toNat : Int), (x1.toNat : Int) / 64 % 2 == 1, (x3.toNat : Int) % 16, (x1.toNat : Int) / 128 == 1, B⟩, 0) by rw [q1, HE])
        have i44 : 5 + (x4.toNat : Int) ≤ (s.size : Int) := by omega
        have i45 : (5 + (x4.toNat : Int)).toNat = 5 + x4.toNat := by omega
        clear hB q1 q2 HE
        go_wp2_with (refine wp_stQ (b := b) (off := 0) ⟨(x1.toNat : Int) % 32 * 256 + (x2.toNat : Int), (x1.toNat : Int) / 64 % 2 == 1, (x3.toNat : Int) % 16, (x1.toNat : Int) / 128 == 1, B⟩ ((A3.out.alloc _).z.there (show 0 + 5 ≤ 5 by decide)) rfl _ _ rfl rfl rfl ?_)
        have E := (A3.out.alloc (.cells (pkC ⟨(x1.toNat : Int) % 32 * 256 + (x2.toNat : Int), (x1.toNat : Int) / 64 % 2 == 1, (x3.toNat : Int) % 16, (x1.toNat : Int) / 128 == 1, B⟩).toArray 37)).ends (pkC ⟨(x1.toNat : Int) % 32 * 256 + (x2.toNat : Int), (x1.toNat : Int) / 64 % 2 == 1, (x3.toNat : Int) % 16, (x1.toNat : Int) / 128 == 1, B⟩) rfl
        exact cs_ret2 Tryd.results18 (lvQ (s := ⟨(x1.toNat : Int) % 32 * 256 + (x2.toNat : Int), (x1.toNat : Int) / 64 % 2 == 1, (x3.toNat : Int) % 16, (x1.toNat : Int) / 128 == 1, B⟩) E.z.r) rfl rfl rfl (PkdPost.of HQ.out E.k)
  · have HD := Lib.hid (show dc (ls s) = (pk0, 20) by have := dcE_sync hll (by rw [e0]; exact h3); rw [dc_no (by rw [this]; decide), this])
    have hx : ((x0.toNat : Int) == 71) = false := by rw [beq_eq_false_iff_ne]; intro k; exact h3 (UInt8.toNat_inj.1 (by rw [show ((71 : UInt8).toNat) = 71 from rfl]; omega))
    clear hl hk e0
    go_enter Tryd.func18, Tryd.ntmps18
    go_wp2_with (refine wp_stQ (b := b) (off := 0) pk0 (A0.out.z.there (show 0 + 5 ≤ 5 by decide)) rfl _ _ rfl rfl rfl ?_)
    have E := A0.out.ends (pkC pk0) rfl
    exact cs_ret2 Tryd.results18 (lvQ (s := pk0) E.z.r) rfl rfl rfl (PkdPost.of HD.out E.k)
-- END DECODE
-- FIND
theorem fdR_some {l : List UInt8} {a : Nat} (h : isFind l (some a)) : fdR l = (a : Int) := by unfold fdR; rw [fnd_eq h]
theorem fdR_none {l : List UInt8} (h : isFind l none) : fdR l = -1 := by unfold fdR; rw [fnd_eq h]
def fdOut (l : List UInt8) (a : Value) : Prop := ∃ k : Nat, k ≤ 188 ∧ k ≤ l.length ∧ a = .int .i64 (k : Int) ∧ noneB l k
def fdIn (l : List UInt8) (k : Nat) (r i : Value) : Prop := ∃ (n : Nat) (t : Bool), k + 188 * n ≤ l.length + 187 ∧ i = .int .i64 ((k + 188 * n : Nat) : Int) ∧ r = .bool t ∧ (t = true ↔ upto l k n)
end Go.Proofs.YtifbomppgflkfaaDoor
