/-
  Rows of bits in memory, and what the document's functions of layer 6 answer: Bits, Of, Number, Bytes. For up to a million bits. The memory that was there stays.
-/
import Derived.Test.YtfkadmcndjohbaaBitsOp
namespace Go.Proofs.Ytfkadmcndjohbaa
open Go.RowKit Gf Bit
set_option maxRecDepth 100000
/-- The slice v is a row of the call's own (from block 'base' on) that holds the bits L. -/
def OwnBl (w : World) (base : Nat) (v : Value) (L : List Bool) : Prop := w.ownsRow base 4 1 v L.length (L.map Value.bool)
theorem OwnBl.nil (w : World) (base : Nat) : OwnBl w base (.slice none 0 0) [] := World.ownsRow_nil _ _ _ _
theorem infoBl : (Try.prog.info? 4).map (fun i => (i.zero, i.size, i.bytes)) = some (some (.bool false), 1, 1) := by kernel_rfl
theorem OwnBl.block {w : World} {base : Nat} {v : Value} {L : List Bool} (h : OwnBl w base v L) : ∀ k, v.ownBlock = some k → base ≤ k := by
  intro k hk
  obtain ⟨_, h⟩ := h
  rcases h with ⟨rfl, _⟩ | ⟨g, cap, cur, rfl, hb, _⟩
  · simp [Value.ownBlock] at hk
  · simp [Value.ownBlock] at hk; omega
theorem OwnBl.kept {w w' : World} {base : Nat} {v : Value} {L : List Bool} (h : OwnBl w base v L) (k : Keeps w w') : OwnBl w' base v L := by
  obtain ⟨hl, h⟩ := h
  refine ⟨hl, ?_⟩
  rcases h with h | ⟨g, cap, cur, hv, hb, hh, h5⟩
  · exact .inl h
  · exact .inr ⟨g, cap, cur, hv, hb, (Below.block k g (Array.getElem?_eq_some_iff.1 hh).1).trans hh, h5⟩
theorem OwnBl.lower {w : World} {base base' : Nat} {v : Value} {L : List Bool} (h : OwnBl w base v L) (hb : base' ≤ base) : OwnBl w base' v L := by
  obtain ⟨hl, h⟩ := h
  refine ⟨hl, ?_⟩
  rcases h with h | ⟨g, cap, cur, hv, hb2, h5⟩
  · exact .inl h
  · exact .inr ⟨g, cap, cur, hv, by omega, h5⟩
/-- The slice (a, len) reads as the bits L. -/
def IsBl (W : World) (a : Option Addr) (len : Nat) (L : List Bool) : Prop :=
  len = L.length ∧ (0 < L.length → ∃ b off, a = some ⟨b, off, none⟩ ∧ b < W.heap.size ∧ ∀ i, i < L.length → W.cell? ⟨b, off + i, none⟩ = some (.bool (bt L i)))
theorem IsBl.kept {W W' : World} {a : Option Addr} {len : Nat} {L : List Bool} (h : IsBl W a len L) (k : Keeps W W') : IsBl W' a len L :=
  ⟨h.1, fun h0 => by
    obtain ⟨b, off, e, hb, hc⟩ := h.2 h0
    exact ⟨b, off, e, Nat.lt_of_lt_of_le hb (Below.size k), fun i hi => (Below.cell k (p := ⟨b, off + i, none⟩) hb).trans (hc i hi)⟩⟩
theorem OwnBl.is {w : World} {base : Nat} {v : Value} {L : List Bool} (h : OwnBl w base v L) : ∃ a cap, v = .slice a L.length cap ∧ IsBl w a L.length L ∧ L.length ≤ cap := by
  obtain ⟨hl, h⟩ := h
  rcases h with ⟨rfl, h0⟩ | ⟨g, cap, cur, rfl, hb, hh, hn, hc, hsz, htake⟩
  · exact ⟨none, 0, by rw [h0], ⟨rfl, fun h => by omega⟩, by omega⟩
  · refine ⟨_, cap, rfl, ⟨rfl, fun _ => ⟨g, 0, rfl, (Array.getElem?_eq_some_iff.1 hh).1, fun i hi => ?_⟩⟩, hn⟩
    have h1 : cur.toList[i]? = some (.bool (bt L i)) := by
      have h2 : (cur.toList.take (L.length * 1))[i]? = (L.map Value.bool)[i]? := by rw [htake]
      rw [List.getElem?_take_of_lt (by omega)] at h2
      rw [h2, List.getElem?_map, List.getElem?_eq_getElem hi, bt_lt hi]; rfl
    rw [Nat.zero_add]
    have h4 : w.cell? ⟨g, i, none⟩ = cur[i]? := by simp [World.cell?, hh]
    rw [h4, ← Array.getElem?_toList, h1]
theorem run_cat_none (a : Option Addr) (len cap : Nat) (hlc : len ≤ cap) (ax : Option Addr) (c : Nat) (ty : TypeId) (w : World) : (Builtin.append_ #[31, 31] ty #[.slice a len cap, .slice ax 0 c]).run Try.prog w = .ok (.slice a len cap) w := by
  have hst : ∀ (p : Addr) (w : World), (storeCells p []).run Try.prog w = .ok () w := fun _ _ => rfl
  cases ax <;> cases a <;> simp [hlc, hst, Builtin.append_, run_underlying Try.underlying31, Builtin.lenOf, Builtin.firstCells, Try.sizeOf4, loadCells, loadCellsFrom]
/-- 'v = append(v, x...)', v a row of bits of the call's own (of what was made since w0), x another one. -/
theorem wp_catB {ops : Array Oper} {rest : List Oper} {o : Oper} {a : Act} {Q : Exit → Act → World → Prop} {wr : World} (hgd : o.guard = none) (s x : Operand)
    (ho : o.op = .call { callee := .builtin .append, args := #[s, x], argTypes := #[31, 31] }) {w0 : World} {v : Value} {l L : List Bool} {ax : Option Addr} {n c : Nat} (hown : OwnBl wr w0.heap.size v l)
    (hs : a.eval s = v) (hx : a.eval x = .slice ax n c) (hI : IsBl wr ax n L) (hl : l.length + L.length ≤ 1000000000) (hk : Keeps w0 wr)
    (h : ∀ v' w', OwnBl w' w0.heap.size v' (l ++ L) → Keeps w0 w' → wr.grownBy w' v.ownBlock → (l ++ L = [] → v' = v) → wpList Try.prog ops Q rest (a.put o.dst v') w') :
    wpList Try.prog ops Q (o :: rest) a wr := by
  obtain ⟨hL, hc⟩ := hI
  by_cases h0 : L = []
  · subst h0
    obtain rfl : n = 0 := hL
    obtain ⟨va, vc, hv, _, hlc⟩ := hown.is
    refine wpList_plain hgd fun _ hK => ?_
    have e : (execOp a.eval o).run Try.prog wr = .ok (.value v) wr := by
      rw [hv] at hs ⊢
      unfold execOp
      simp [ho, resolve, invoke, builtin, hs, hx, run_cat_none _ _ _ hlc, Result.andThen]
    unfold Oper.wp
    rw [e, Oper.upon_value]
    exact hK _ _ (h _ _ (by rw [List.append_nil]; exact hown) hk (World.grownBy.refl _ _) fun _ => rfl)
  · obtain ⟨b, off, rfl, hb, hc⟩ := hc (List.length_pos_iff.2 h0)
    obtain ⟨i0, hi, hz0, hz1, hz2⟩ := info_parts infoBl
    have hsz := Below.size hk
    have hown0 : wr.ownsRow w0.heap.size 4 1 v l.length (l.map Value.bool) := hown
    refine wpList_append_own _ hgd s x 31 ho w0.heap.size 4 i0 (.bool false) 1 1 Try.underlying31 hi hz0 hz1 hz2 rfl (by decide) v l.length (l.map Value.bool) hs hown0
      ⟨b, off, none⟩ n c (L.map Value.bool) hx (by rw [List.length_map, hL, Nat.mul_one]) ?_ ?_ ?_ ?_ hsz ?_
    · intro j u hj
      have hlt : j < L.length := by have := (List.getElem?_eq_some_iff.1 hj).1; rwa [List.length_map] at this
      rw [Addr.add_mid, hc j hlt, ← hj, List.getElem?_map, List.getElem?_eq_getElem hlt, bt_lt hlt]
      rfl
    · intro u hu
      obtain ⟨y, _, rfl⟩ := List.mem_map.1 hu
      rfl
    · unfold maxLen; omega
    · omega
    · intro v' w' h1 h2 _
      refine h v' w' ?_ ?_ h2 fun e => absurd (List.append_eq_nil_iff.1 e).2 h0
      · unfold OwnBl; rw [List.length_append, List.map_append, ← hL]; exact h1
      · exact Below.grown hk h2 hsz hown.block
theorem OwnBl.first {w : World} {base : Nat} {v : Value} {L : List Bool} (h : OwnBl w base v L) (hL : L ≠ []) : ∀ g, v.ownBlock = some g → ∃ u, w.cell? ⟨g, 0, none⟩ = some (.bool u) := by
  intro g hg
  obtain ⟨a, cap, rfl, hI, _⟩ := h.is
  obtain ⟨_, h⟩ := h
  obtain ⟨b, off, rfl, _, hc⟩ := hI.2 (List.length_pos_iff.2 hL)
  rcases h with ⟨e, _⟩ | ⟨g2, cap2, cur, e, _⟩
  · cases e
  · cases e
    cases hg
    exact ⟨_, hc 0 (List.length_pos_iff.2 hL)⟩
theorem Chain.ptr {w : World} {b : Nat} {f : Nat → UInt8} : ∀ {m : Nat} {v : Value}, Chain w b f m v → ∃ p, v = .pointer p
  | 0, _, h => ⟨none, h⟩
  | _ + 1, _, h => by obtain ⟨c, _, e, _⟩ := h; exact ⟨_, e⟩
theorem ptr_apart {w : World} {c g : Nat} {p : Option Addr} {u : Bool} (h1 : w.cell? ⟨c, 0, none⟩ = some (.pointer p)) (h2 : w.cell? ⟨g, 0, none⟩ = some (.bool u)) : c ≠ g := by
  intro e; subst e; rw [h1] at h2; cases h2
theorem Chain.row {w w' : World} {row : Option Nat} {b : Nat} {f : Nat → UInt8} (hg : w.grownBy w' row) (hr : ∀ g, row = some g → ∃ u, w.cell? ⟨g, 0, none⟩ = some (.bool u)) : ∀ {m : Nat} {v : Value}, Chain w b f m v → Chain w' b f m v
  | 0, _, h => h
  | m + 1, _, h => by
    obtain ⟨c, u, e, hn, h0, hb, hch⟩ := h
    obtain ⟨p, rfl⟩ := hch.ptr
    have hblk : w'.heap[c]? = w.heap[c]? := hg.block c (there_cell h0) fun e => by
      obtain ⟨u, hu⟩ := hr c e.symm
      exact ptr_apart h0 hu rfl
    exact ⟨c, _, e, hn, cell_block h0 hblk, fun i hi => cell_block (hb i hi) hblk, hch.row hg hr⟩
/-- A writer stays where a row of bits grows. -/
theorem OutR.row {w w' : World} {row : Option Nat} {b : Nat} {f : Nat → UInt8} {n : Nat} (h : OutR b f n w) (hg : w.grownBy w' row) (hr : ∀ g, row = some g → ∃ u, w.cell? ⟨g, 0, none⟩ = some (.bool u)) : OutR b f n w' := by
  obtain ⟨v, h1, h2⟩ := h.chain
  obtain ⟨p, rfl⟩ := h2.ptr
  have hblk : w'.heap[b]? = w.heap[b]? := hg.block b h.old fun e => by
    obtain ⟨u, hu⟩ := hr b e.symm
    exact ptr_apart h1 hu rfl
  exact ⟨cell_block h.cnt hblk, fun i hi => cell_block (h.byte i hi) hblk, fun i hi => (World.frozen?_of_block (w := w) (a := ⟨b, i, none⟩) hblk).trans (h.free i hi), _, cell_block h1 hblk, h2.row hg hr⟩
/-- A row of bits stays where a writer writes. -/
theorem OwnBl.outs {w w' : World} {base b n : Nat} {f : Nat → UInt8} {v : Value} {L : List Bool} (h : OwnBl w base v L) (hn : L = [] → v = .slice none 0 0) (hO : OutR b f n w) (k : Only b w w') : OwnBl w' base v L := by
  by_cases h0 : L = []
  · rw [hn h0, h0]; exact OwnBl.nil _ _
  · have hf := h.first h0
    obtain ⟨hl, h⟩ := h
    refine ⟨hl, ?_⟩
    rcases h with h | ⟨g, cap, cur, hv, hb, hh, h5⟩
    · exact .inl h
    · obtain ⟨u, hu⟩ := hf g (by rw [hv]; rfl)
      obtain ⟨p, h1, h2⟩ := hO.chain
      obtain ⟨q, rfl⟩ := h2.ptr
      exact .inr ⟨g, cap, cur, hv, hb, (k.block g (Array.getElem?_eq_some_iff.1 hh).1 fun e => ptr_apart h1 hu e.symm).trans hh, h5⟩
/-- A row of one bit, as a call lays it. -/
theorem OwnBl.lit (w : World) (b : Bool) (base : Nat) (hb : base ≤ w.heap.size) : OwnBl (w.alloc (.cells #[.bool b] 4)) base (.slice (some ⟨w.heap.size, 0, none⟩) 1 1) [b] :=
  OwnBl.lower (by unfold OwnBl; exact World.ownsRow_lit w #[Value.bool b] 1 (Nat.le_refl _) (by decide) rfl) hb
def biRel (w : World) (x N : Nat) (xv out i : Value) (wr : World) : Prop := ∃ k : Nat, k ≤ N ∧ xv = .int .u64 (un (x / 2 ^ k)) ∧ i = .int .i64 (k : Int) ∧ OwnBl wr w.heap.size out (lb x k) ∧ Keeps w wr
set_option maxHeartbeats 4000000 in
theorem rbits_any (x N : Nat) (w : World) (hx : x < 2 ^ 64) (hN : N ≤ 1000) : Calls Try.prog 26 #[.int .u64 (un x), .int .i64 (N : Int)] w fun e w' => ∃ v, e = .returned v ∧ OwnBl w' w.heap.size v (lb x N) ∧ Keeps w w' := by
  have HX := Lib.hid hx
  clear hx
  go_enter Try.func26, Try.ntmps26
  go_wp2
  go_loopw [0, 5, 6] (fun xv out i wr => biRel w x N xv out i wr) (fun _ _ i _ => N - (intOf i).toNat)
  case atStart => exact ⟨0, by omega, by rw [Nat.pow_zero, Nat.div_one], rfl, OwnBl.nil _ _, Keeps.refl w⟩
  case round =>
    obtain ⟨k, hk, rfl, rfl, hown, hkp⟩ := hrel
    by_cases hlt : k < N
    · have hkI : (k : Int) < (N : Int) := by omega
      obtain ⟨va, vc, rfl, hIs, _⟩ := hown.is
      obtain ⟨q, hq⟩ : ∃ q, x / 2 ^ k = q := ⟨_, rfl⟩
      have HQ2 := Lib.hid (show x / 2 ^ (k + 1) = q / 2 by rw [Nat.pow_succ, ← Nat.div_div_eq_div_mul, hq])
      obtain ⟨bb, hbb⟩ : ∃ bb, x.testBit k = bb := ⟨_, rfl⟩
      have HLB := Lib.hid (show [bb] ++ lb x k = lb x (k + 1) by rw [← hbb]; rfl)
      have e1 : (un q % 2 == 1) = bb := by
        rw [← hbb, Nat.testBit_eq_decide_div_mod_eq, hq]
        unfold un
        by_cases h : q % 2 = 1
        · rw [decide_eq_true h]; have : (q : Int) % 2 = 1 := by omega
          rw [this]; rfl
        · rw [decide_eq_false h]; have : (q : Int) % 2 = 0 := by omega
          rw [this]; rfl
      have hub : 0 ≤ un q := by unfold un; omega
      have HE2 := Lib.hid (show IntKind.u64.wrap ((un q).tdiv 2) = un (q / 2) by
        have hq64 : q < 2 ^ 64 := by rw [← hq]; exact Nat.lt_of_le_of_lt (Nat.div_le_self _ _) HX.out
        rw [Int.tdiv_eq_ediv_of_nonneg hub, IntKind.wrap_u64]; unfold un; omega)
      rw [hq]
      have HIs := Lib.hid (hIs.kept ((Keeps.refl wr).alloc (.cells #[.bool bb] 4)))
      have HLit := Lib.hid (OwnBl.lit wr bb w.heap.size hkp.size)
      have HKp := Lib.hid (hkp.alloc (.cells #[.bool bb] 4))
      have HLl := Lib.hid (lb_length x k)
      clear hown hIs hkp hq hbb
      go_wp2_with (at_builtin; refine wp_catB rfl _ _ rfl (w0 := w) HLit.out rfl rfl HIs.out (by rw [HLl.out]; simp; omega) HKp.out ?_; intro v' w' ho' hk' _ _; have HO' := Lib.hid ho'; have HK' := Lib.hid hk'; clear ho' hk')
      go_roundw
      case rel => exact ⟨k + 1, by omega, by rw [HQ2.out, HE2.out], by go_num, by rw [← HLB.out]; exact HO'.out, HK'.out⟩
      case measure => simp [intOf]; omega
    · obtain rfl : N = k := by omega
      have hkI : ¬ ((N : Int) < (N : Int)) := by omega
      go_wp2
      go_ret
      exact ⟨_, rfl, hown, hkp⟩
def ofRel (w : World) (s : List UInt8) (out i : Value) (wr : World) : Prop := ∃ k : Nat, k ≤ s.length ∧ i = .int .i64 (k : Int) ∧ OwnBl wr w.heap.size out (ob (s.take k)) ∧ Keeps w wr
set_option maxHeartbeats 4000000 in
theorem rof_any (s : ByteArray) (w : World) (hs : s.size ≤ 1000000) : Calls Try.prog 17 #[.string s] w fun e w' => ∃ v, e = .returned v ∧ OwnBl w' w.heap.size v (ob (ls s)) ∧ Keeps w w' := by
  have hlen : (ls s).length = s.size := (ls_size s).symm
  go_enter Try.func17, Try.ntmps17
  go_wp2
  go_loopw [3, 4] (fun out i wr => ofRel w (ls s) out i wr) (fun _ i _ => s.size - (intOf i).toNat)
  case atStart => exact ⟨0, by omega, rfl, OwnBl.nil _ _, Keeps.refl w⟩
  case round =>
    obtain ⟨k, hk, rfl, hown, hkp⟩ := hrel
    rw [hlen] at hk
    by_cases hlt : k < s.size
    · have hkI : (k : Int) < (s.size : Int) := by omega
      have hgm := ls_get s k hlt
      have HTS := Lib.hid (ob_take_succ (s := ls s) (k := k) (by rw [hlen]; exact hlt))
      have hy := u8_bd (cf (ls s) k)
      have HB := Lib.hid fun W => rbits_any (cf (ls s) k).toNat 8 W (Nat.lt_of_lt_of_le (cf (ls s) k).toNat_lt (by decide)) (by decide)
      have HLn := Lib.hid (show (ob ((ls s).take k)).length ≤ 8000000 by rw [ob_length, List.length_take]; omega)
      generalize cf (ls s) k = y at *
      have HOw := Lib.hid hown
      have HKp := Lib.hid hkp
      clear hown hkp
      go_wp2_with (first | (go_at_call 26; (try rw [hgm]); refine (HB.out _).mono ?_; rintro _ w2 ⟨v2, rfl, ho2, hk2⟩; obtain ⟨va, vc, rfl, hIs, _⟩ := ho2.is; have HIs := Lib.hid hIs; have HO2 := Lib.hid (HOw.out.kept hk2); have HK2 := Lib.hid (HKp.out.more hk2); clear ho2 hk2 hIs) | (at_builtin; refine wp_catB rfl _ _ rfl (w0 := w) HO2.out rfl rfl HIs.out (by rw [lb_length]; have := HLn.out; omega) HK2.out ?_; intro v' w' ho' hk' _ _; have HO' := Lib.hid ho'; have HK' := Lib.hid hk'; clear ho' hk'))
      go_roundw
      case rel => exact ⟨k + 1, by rw [hlen]; omega, by go_num, by rw [HTS.out]; exact HO'.out, HK'.out⟩
      case measure => simp [intOf]; omega
    · have ht : (ls s).take k = ls s := List.take_of_length_le (by rw [hlen]; omega)
      rw [ht] at hown
      have hkI : ¬ ((k : Int) < (s.size : Int)) := by omega
      go_wp2
      go_ret
      exact ⟨_, rfl, hown, hkp⟩
def nuRel (w : World) (L : List Bool) (x i : Value) (wr : World) : Prop := ∃ k : Nat, k ≤ L.length ∧ i = .int .i64 (k : Int) ∧ x = .int .u64 (un (num (L.take k))) ∧ w = wr
theorem num_take_more {L : List Bool} {k : Nat} (h : k < L.length) : num (L.take (k + 1)) = 2 * num (L.take k) + (bt L k).toNat := by
  rw [List.take_succ_eq_append_getElem h, num_snoc, bt_lt h]
set_option maxHeartbeats 4000000 in
theorem rnumber_any {a : Option Addr} {len cap : Nat} {L : List Bool} (w : World) (h : IsBl w a len L) (hL : L.length ≤ 64) : Calls Try.prog 18 #[.slice a len cap] w fun e w' => e = .returned (.int .u64 (un (num L))) ∧ w = w' := by
  obtain ⟨N, hN⟩ : ∃ N, L.length = N := ⟨_, rfl⟩
  have hll : len = N := by rw [← hN]; exact h.1
  subst hll
  have HN := Lib.hid hN
  have HH := Lib.hid h
  have hlen : len ≤ 64 := by omega
  clear h hL hN
  go_enter Try.func18, Try.ntmps18
  go_wp2
  go_loopw [3, 4] (fun x i wr => nuRel w L x i wr) (fun _ i _ => len - (intOf i).toNat)
  case atStart => exact ⟨0, by omega, rfl, rfl, rfl⟩
  case round =>
    obtain ⟨k, hk, rfl, rfl, rfl⟩ := hrel
    rw [HN.out] at hk
    by_cases hlt : k < len
    · obtain ⟨b, off, rfl, _, hc⟩ := HH.out.2 (by rw [HN.out]; omega)
      have hck := hc k (by rw [HN.out]; exact hlt)
      have hkI : (k : Int) < (len : Int) := by omega
      have HM := Lib.hid (num_take_more (L := L) (k := k) (by rw [HN.out]; exact hlt))
      have hb63 : num (L.take k) < 2 ^ 63 := Nat.lt_of_lt_of_le (num_lt _) (Nat.pow_le_pow_right (by decide) (by rw [List.length_take]; omega))
      have e1 : IntKind.u64.wrap (2 * un (num (L.take k))) = un (2 * num (L.take k)) := by unfold un; rw [IntKind.wrap_u64]; omega
      have e2 : IntKind.u64.wrap (un (2 * num (L.take k)) + 1) = un (2 * num (L.take k) + 1) := by unfold un; rw [IntKind.wrap_u64]; omega
      have hub : 0 ≤ un (num (L.take k)) := by unfold un; omega
      clear hc hb63
      generalize num (L.take k) = q at *
      cases hbt : bt L k
      · rw [hbt] at hck HM
        go_wp2
        go_roundw
        case rel => exact ⟨k + 1, by rw [HN.out]; omega, by go_num, by rw [HM.out]; rfl, rfl⟩
        case measure => simp [intOf]; omega
      · rw [hbt] at hck HM
        go_wp2
        go_roundw
        case rel => exact ⟨k + 1, by rw [HN.out]; omega, by go_num, by rw [HM.out]; rfl, rfl⟩
        case measure => simp [intOf]; omega
    · have ht : L.take k = L := List.take_of_length_le (by rw [HN.out]; omega)
      rw [ht]
      have hkI : ¬ ((k : Int) < (len : Int)) := by omega
      go_wp2
      go_ret
      exact ⟨rfl, rfl⟩
/-- The first m bits of byte j, as a number. -/
def pb (L : List Bool) (j m : Nat) : Nat := num ((List.range m).map fun k => bt L (8 * j + k))
theorem pb_zero (L : List Bool) (j : Nat) : pb L j 0 = 0 := rfl
theorem pb_succ (L : List Bool) (j m : Nat) : pb L j (m + 1) = 2 * pb L j m + (bt L (8 * j + m)).toNat := by
  unfold pb; rw [List.range_succ, List.map_append, List.map_cons, List.map_nil, num_snoc]
theorem pb_lt (L : List Bool) (j : Nat) {m : Nat} (h : m ≤ 8) : pb L j m < 256 := by
  unfold pb
  exact Nat.lt_of_lt_of_le (num_lt _) (by rw [List.length_map, List.length_range]; exact Nat.pow_le_pow_right (n := 2) (by decide) h)
theorem pb_all (L : List Bool) (j : Nat) : pb L j 8 = (byt L j).toNat := (byt_nat L j).symm
def byRel (w : World) (L : List Bool) (out i : Value) (wr : World) : Prop := ∃ j : Nat, j ≤ (pack L).length ∧ i = .int .i64 (8 * (j : Int)) ∧ Own wr w.heap.size out ((pack L).take j) ∧ Keeps w wr
def inRel (w : World) (L : List Bool) (j : Nat) (n k : Value) (wr : World) : Prop := ∃ m : Nat, m ≤ 8 ∧ k = .int .i64 (m : Int) ∧ n = .int .i64 (un (pb L j m)) ∧ w = wr
set_option maxHeartbeats 4000000 in
theorem rbytes_any {a : Option Addr} {len cap : Nat} {L : List Bool} (w : World) (h : IsBl w a len L) (hL : L.length ≤ 1000000) : Calls Try.prog 15 #[.slice a len cap] w fun e w' => e = .returned (.string (st (pack L))) ∧ Keeps w w' := by
  obtain ⟨N, hN⟩ : ∃ N, L.length = N := ⟨_, rfl⟩
  have hll : len = N := by rw [← hN]; exact h.1
  subst hll
  obtain ⟨B, hB⟩ : ∃ B, (pack L).length = B := ⟨_, rfl⟩
  have hB2 : B = (len + 7) / 8 := by rw [← hB, pack_length, hN]
  have HN := Lib.hid hN
  have HB := Lib.hid hB
  have HB2 := Lib.hid hB2
  have HH := Lib.hid h
  have hlen : len ≤ 1000000 := by omega
  clear h hL hN hB hB2
  go_enter Try.func15, Try.ntmps15
  go_wp2
  go_loopw [3, 4] (fun out i wr => byRel w L out i wr) (fun _ i _ => (len + 8 : Nat) - (intOf i).toNat)
  case atStart => exact ⟨0, by omega, rfl, Own.nil _ _, Keeps.refl w⟩
  case round =>
    obtain ⟨j, hj, rfl, hown, hkp⟩ := hrel
    rw [HB.out] at hj
    have HOw := Lib.hid hown
    have HKp := Lib.hid hkp
    clear hown hkp
    have hB2 := HB2.out
    by_cases hlt : 8 * j < len
    · have hjI : 8 * (j : Int) < (len : Int) := by omega
      have hj8 : 8 * (j : Int) ≤ 1000000 := by omega
      have HJB := Lib.hid (show j < B by omega)
      clear hB2
      go_wp2
      go_loopw [5, 6] (fun n k wr' => inRel wr L j n k wr') (fun _ k _ => 8 - (intOf k).toNat)
      case atStart => exact ⟨0, by omega, rfl, rfl, rfl⟩
      case round =>
        obtain ⟨m, hm, rfl, rfl, rfl⟩ := hrel
        by_cases hm8 : m < 8
        · have hmI : (m : Int) < 8 := by omega
          have HPS := Lib.hid (pb_succ L j m)
          have hpl := pb_lt L j (m := m) (by omega)
          have hub : 0 ≤ un (pb L j m) ∧ un (pb L j m) ≤ 255 := by unfold un; omega
          have e1 : 2 * un (pb L j m) = un (2 * pb L j m) := by unfold un; omega
          have e2 : un (2 * pb L j m) + 1 = un (2 * pb L j m + 1) := by unfold un; omega
          have hub2 : 0 ≤ un (2 * pb L j m) ∧ un (2 * pb L j m) ≤ 510 := by unfold un; omega
          clear hpl
          generalize pb L j m = q at *
          by_cases hin : 8 * j + m < len
          · obtain ⟨b, off, rfl, hbo, hc⟩ := HH.out.2 (by rw [HN.out]; omega)
            have hck := (Below.cell HKp.out (p := ⟨b, off + (8 * j + m), none⟩) hbo).trans (hc (8 * j + m) (by rw [HN.out]; exact hin))
            obtain ⟨t, ht⟩ : ∃ t, 8 * j + m = t := ⟨_, rfl⟩
            rw [ht] at hck HPS
            have hinI : (t : Int) < (len : Int) := by omega
            have htb : (t : Int) ≤ 1000000 := by omega
            have e3 : 8 * (j : Int) + (m : Int) = (t : Int) := by omega
            clear hc ht hin
            cases hbt : bt L t
            · rw [hbt] at hck HPS
              go_wp2
              go_roundw
              case rel => exact ⟨m + 1, by omega, by go_num, by rw [HPS.out]; rfl, rfl⟩
              case measure => simp [intOf]; omega
            · rw [hbt] at hck HPS
              go_wp2
              go_roundw
              case rel => exact ⟨m + 1, by omega, by go_num, by rw [HPS.out]; rfl, rfl⟩
              case measure => simp [intOf]; omega
          · have hinI : ¬ (8 * (j : Int) + (m : Int) < (len : Int)) := by omega
            rw [bt_big (by rw [HN.out]; omega)] at HPS
            go_wp2
            go_roundw
            case rel => exact ⟨m + 1, by omega, by go_num, by rw [HPS.out]; rfl, rfl⟩
            case measure => simp [intOf]; omega
        · obtain rfl : m = 8 := by omega
          rw [pb_all]
          have hy := u8_bd (byt L j)
          have HTK := Lib.hid (show (pack L).take (j + 1) = (pack L).take j ++ [byt L j] by rw [List.take_succ_eq_append_getElem (by rw [HB.out]; exact HJB.out), ← cf_lt, cf_pack])
          have HTL := Lib.hid (show ((pack L).take j).length ≤ 1000000000 by rw [List.length_take]; omega)
          generalize byt L j = y at *
          have e4 : IntKind.u8.wrap (un y.toNat) = (y.toNat : Int) := by rw [IntKind.wrap_u8']; unfold un; omega
          go_wp2_with (at_builtin; refine wp_push8 rfl _ _ rfl (w0 := w) y HOw.out rfl rfl HTL.out HKp.out ?_; intro v' w' ho' hk'; have HO' := Lib.hid ho'; have HK' := Lib.hid hk'; clear ho' hk')
          go_roundw
          case rel => exact ⟨j + 1, by rw [HB.out]; have := HJB.out; omega, by congr 1, by rw [HTK.out]; exact HO'.out, HK'.out⟩
          case measure => simp [intOf]; omega
    · have ht : (pack L).take j = pack L := List.take_of_length_le (by rw [HB.out]; omega)
      rw [ht] at HOw
      have hjI : ¬ (8 * (j : Int) < (len : Int)) := by omega
      have hj8 : 8 * (j : Int) ≤ 2000000 := by omega
      have htx := HOw.out.text
      clear hB2
      go_wp2
      go_ret
      exact ⟨rfl, HKp.out⟩
set_option maxHeartbeats 4000000 in
theorem told_any (o : OpD) (w : World) (ho : o.ok) (hs : o.s.size ≤ 60) : Calls Try.prog 12 #[.agg o.cells.toArray] w fun e w' => ∃ v, e = .returned v ∧ OwnBl w' w.heap.size v o.bits ∧ Keeps w w' := by
  obtain ⟨M, hM⟩ : ∃ M, o.bits = M := ⟨_, rfl⟩
  rw [hM]
  have HM := Lib.hid hM
  obtain ⟨t, x, n, s⟩ := o
  have HX := Lib.hid ho.1
  have hs2 : s.size ≤ 60 := hs
  clear ho hs hM
  unfold OpD.cells
  have hk := Keeps.alloc (Keeps.refl w) (.cells #[.bool t, .int .u64 (un x), .int .i64 n, .string s] 37)
  obtain ⟨w1, hw1⟩ : ∃ w1, w.alloc (.cells #[.bool t, .int .u64 (un x), .int .i64 n, .string s] 37) = w1 := ⟨_, rfl⟩
  have c0 : w1.cell? ⟨w.heap.size, 0, none⟩ = some (.bool t) := by rw [← hw1, World.cell?_alloc_new]; rfl
  have c1 : w1.cell? ⟨w.heap.size, 1, none⟩ = some (.int .u64 (un x)) := by rw [← hw1, World.cell?_alloc_new]; rfl
  have c2 : w1.cell? ⟨w.heap.size, 2, none⟩ = some (.int .i64 n) := by rw [← hw1, World.cell?_alloc_new]; rfl
  have c3 : w1.cell? ⟨w.heap.size, 3, none⟩ = some (.string s) := by rw [← hw1, World.cell?_alloc_new]; rfl
  rw [hw1] at hk
  have HK := Lib.hid hk
  clear hk
  go_enter Try.func12, Try.ntmps12
  cases t
  · by_cases h1 : n < 0
    · go_wp2
      go_ret
      have hM := HM.out
      rw [show (OpD.mk false x n s).bits = [] by unfold OpD.bits; rw [if_neg (by simp), if_pos (by simp [OpD.bad, h1])]] at hM
      subst hM
      exact ⟨_, rfl, OwnBl.nil _ _, HK.out⟩
    by_cases h2 : 64 < n
    · go_wp2
      go_ret
      have hM := HM.out
      rw [show (OpD.mk false x n s).bits = [] by unfold OpD.bits; rw [if_neg (by simp), if_pos (by simp [OpD.bad, h2])]] at hM
      subst hM
      exact ⟨_, rfl, OwnBl.nil _ _, HK.out⟩
    · obtain ⟨N, rfl⟩ : ∃ N : Nat, n = (N : Int) := ⟨n.toNat, by omega⟩
      have HB := Lib.hid (rbits_any x N w1 HX.out (by omega))
      go_wp2_with (go_at_call 26; refine HB.out.mono ?_; rintro _ w2 ⟨v2, rfl, ho2, hk2⟩)
      go_ret
      have hM := HM.out
      rw [show (OpD.mk false x (N : Int) s).bits = lb x N by unfold OpD.bits; rw [if_neg (by simp), if_neg (by simp [OpD.bad, h1, h2])]; rfl] at hM
      subst hM
      exact ⟨_, rfl, ho2.lower HK.out.size, HK.out.more hk2⟩
  · have HB := Lib.hid (rof_any s w1 (by omega))
    go_wp2_with (go_at_call 17; refine HB.out.mono ?_; rintro _ w2 ⟨v2, rfl, ho2, hk2⟩)
    go_ret
    have hM := HM.out
    rw [show (OpD.mk true x n s).bits = ob (ls s) from rfl] at hM
    subst hM
    exact ⟨_, rfl, ho2.lower HK.out.size, HK.out.more hk2⟩
end Go.Proofs.Ytfkadmcndjohbaa
