/-
  What the widths of package descr answer: fit, bytes, text, read. The memory that was there stays.
-/
import Derived.Test.YtlghkdkaifcliaaDoorDsW
import Derived.Test.YtlghkdkaifcliaaDoorDsV
namespace Go.Proofs.YtlghkdkaifcliaaDoor
open Go.RowKit Gf Ds
set_option maxRecDepth 100000
set_option linter.unusedVariables false
def gi (l : List Int) (k : Nat) : Int := l.getD k 0
abbrev nV (l : List Int) : Value := .agg (l.map (Value.int .i64 ·)).toArray
abbrev nC (l : List Int) : List Value := l.map (Value.int .i64 ·)
def il (l : List Nat) : List Int := l.map (Int.ofNat ·)
theorem gi_il (l : List Nat) (k : Nat) : gi (il l) k = ((gn l k : Nat) : Int) := by
  unfold gi il gn
  rw [List.getD_eq_getElem?_getD, List.getD_eq_getElem?_getD, List.getElem?_map]
  cases l[k]? <;> rfl
theorem nC_get {l : List Int} {k : Nat} (h : k < l.length) : (nC l)[k]? = some (.int .i64 (gi l k)) := by
  unfold gi
  rw [List.getElem?_map, List.getElem?_eq_getElem h, List.getD_eq_getElem?_getD, List.getElem?_eq_getElem h]; rfl
theorem flag_any (b : Bool) (w : World) : Calls Tryd.prog 59 #[.bool b] w fun e w' => e = .returned (.int .i64 (bn b : Int)) ∧ w = w' := by
  cases b
  all_goals
    go_enter Tryd.func59, Tryd.ntmps59
    go_wp2
    go_ret
    exact ⟨rfl, rfl⟩
section
variable {ops : Array Oper} {rest : List Oper} {o : Oper} {a : Act} {w : World} {Q : Exit → Act → World → Prop} {b : Nat} {cs : List Value}
theorem wp_ldW (h : CsAt b cs w) (hl : cs.length = 9) (hgd : o.guard = none) (x : Operand) (ho : o.op = .load 113 x)
    (hx : a.eval x = .pointer (some ⟨b, 0, none⟩)) (k : wpList Tryd.prog ops Q rest (a.put o.dst (.agg cs.toArray)) w) : wpList Tryd.prog ops Q (o :: rest) a w :=
  wpList_load_mid hgd _ x ho b 0 hx cs _ h.r Tryd.underlying113 rfl (by rw [hl]; kernel_rfl) k
theorem wp_ldN (h : CsAt b cs w) (hl : cs.length = 9) (hgd : o.guard = none) (x : Operand) (ho : o.op = .load 111 x)
    (hx : a.eval x = .pointer (some ⟨b, 0, none⟩)) (k : wpList Tryd.prog ops Q rest (a.put o.dst (.agg cs.toArray)) w) : wpList Tryd.prog ops Q (o :: rest) a w :=
  wpList_load_mid hgd _ x ho b 0 hx cs _ h.r Tryd.underlying111 rfl (by rw [hl]; kernel_rfl) k
theorem wp_stN (h : CsAt b cs w) (hl : cs.length = 9) (ds : List Value) (hd : ds.length = 9) (h1 : ∀ u ∈ ds, u.oneCell' = true) (hgd : o.guard = none) (x y : Operand) (ho : o.op = .store 111 x y)
    (hx : a.eval x = .pointer (some ⟨b, 0, none⟩)) (hy : a.eval y = .agg ds.toArray) (k : wpList Tryd.prog ops Q rest (a.put o.dst undef) (w.setCells b 0 ds)) : wpList Tryd.prog ops Q (o :: rest) a w :=
  wpList_store_mid hgd _ x y ho b 0 ds.toArray hx hy (by rw [List.size_toArray, hd]; exact h.there (by omega)) (by rw [List.size_toArray, hd]; kernel_rfl) (all_oneCell_toArray h1) k
end
theorem lvN {w : World} {b : Nat} {cs : List Value} (h : w.rangeAt b 0 cs) (hl : cs.length = 9) : (loadVar 111 ⟨b, 0, none⟩).run Tryd.prog w = .ok (.agg cs.toArray) w := run_loadVar_mid (P := Tryd.prog) w b 0 _ cs _ h Tryd.underlying111 rfl (by rw [hl]; kernel_rfl)
theorem nC_one (l : List Int) : ∀ u ∈ nC l, u.oneCell' = true := by
  intro u hu
  obtain ⟨x, _, rfl⟩ := List.mem_map.1 hu
  rfl
/-- One of nine numbers that are handed in by value. -/
theorem run_ixW {A : Array Value} {k : Nat} {x : Int} (hk : k < 9) (hx : A[k]? = some (.int .i64 x)) (w : World) : (Instr.index 113 (.agg A) (.int .i64 (k : Int))).run Tryd.prog w = .ok (.int .i64 x) w := by
  have h1 : (0 : Int) ≤ (k : Int) ∧ (k : Int) < 9 := by omega
  simp [Instr.index, run_underlying Tryd.underlying113, asIntOf, hk, hx, go_sem]
theorem run_ixN {A : Array Value} {k : Nat} {x : Int} (hk : k < 9) (hx : A[k]? = some (.int .i64 x)) (w : World) : (Instr.index 111 (.agg A) (.int .i64 (k : Int))).run Tryd.prog w = .ok (.int .i64 x) w := by
  have h1 : (0 : Int) ≤ (k : Int) ∧ (k : Int) < 9 := by omega
  simp [Instr.index, run_underlying Tryd.underlying111, asIntOf, hk, hx, go_sem]
/-- Does each number have room? -/
def fits (ws : List Nat) (ns : List Int) : Prop := ∀ k, k < 9 → 0 ≤ gi ns k ∧ gi ns k < ((2 ^ gn ws k : Nat) : Int)
instance (ws : List Nat) (ns : List Int) : Decidable (fits ws ns) := by unfold fits; infer_instance
theorem shr_yes {N : Int} {Q : Nat} (h : 0 ≤ N ∧ N < ((2 ^ Q : Nat) : Int)) : (N / 2 ^ Q != 0) = false := by
  have e : N / 2 ^ Q = 0 := Int.ediv_eq_zero_of_lt h.1 (by have := h.2; exact_mod_cast this)
  rw [e]; rfl
theorem shr_no {N : Int} {Q : Nat} (h : ¬ (0 ≤ N ∧ N < ((2 ^ Q : Nat) : Int))) : (N / 2 ^ Q != 0) = true := by
  have p : (0 : Int) < 2 ^ Q := by exact_mod_cast Nat.two_pow_pos Q
  rw [bne_iff_ne]
  intro e
  refine h ⟨?_, ?_⟩
  · by_cases k : 0 ≤ N
    · exact k
    · exact absurd e (by have := Int.ediv_neg_of_neg_of_pos (a := N) (b := 2 ^ Q) (by omega) p; omega)
  · have := Int.lt_ediv_add_one_mul_self N p
    rw [e] at this
    push_cast
    omega
set_option maxHeartbeats 1600000 in
theorem dfit_any {ws : List Nat} {ns : List Int} (hw : ws.length = 9) (hn : ns.length = 9) (hb : ∀ k, gn ws k ≤ 24) (w : World) :
    Calls Tryd.prog 47 #[nV (il ws), nV ns] w fun e w' => e = .returned (.bool (decide (fits ws ns))) ∧ Keeps w w' := by
  have HB := Lib.hid hb
  have HG := Lib.hid (fun k (h : k < 9) => nC_get (l := ns) (k := k) (by omega))
  have HW := Lib.hid (fun k (h : k < 9) => nC_get (l := il ws) (k := k) (by rw [show (il ws).length = 9 by unfold il; rw [List.length_map]; exact hw]; exact h))
  obtain ⟨w0, w1, w2, w3, w4, w5, w6, w7, w8, rfl⟩ := nine_of hw
  obtain ⟨n0, n1, n2, n3, n4, n5, n6, n7, n8, rfl⟩ := nine_of hn
  obtain ⟨b, hbz⟩ : ∃ b, w.heap.size = b := ⟨_, rfl⟩
  obtain ⟨wA, hA⟩ : ∃ wX, w.alloc (.cells #[.int .i64 (w0 : Int), .int .i64 (w1 : Int), .int .i64 (w2 : Int), .int .i64 (w3 : Int), .int .i64 (w4 : Int), .int .i64 (w5 : Int), .int .i64 (w6 : Int), .int .i64 (w7 : Int), .int .i64 (w8 : Int)] 113) = wX := ⟨_, rfl⟩
  obtain ⟨wB, hB⟩ : ∃ wX, wA.alloc (.cells #[.int .i64 n0, .int .i64 n1, .int .i64 n2, .int .i64 n3, .int .i64 n4, .int .i64 n5, .int .i64 n6, .int .i64 n7, .int .i64 n8] 111) = wX := ⟨_, rfl⟩
  have hz : wA.heap.size = b + 1 := by rw [← hA, World.size_alloc, hbz]
  have kA : Keeps w wA := by rw [← hA]; exact (Keeps.refl w).alloc _
  have kB : Keeps wA wB := by rw [← hB]; exact (Keeps.refl wA).alloc _
  have HK := Lib.hid (kA.trans kB)
  have HX := Lib.hid (show CsAt b (nC (il [w0, w1, w2, w3, w4, w5, w6, w7, w8])) wB from CsAt.keeps (w := wA) (by rw [← hbz, ← hA]; exact CsAt.made w #[.int .i64 (w0 : Int), .int .i64 (w1 : Int), .int .i64 (w2 : Int), .int .i64 (w3 : Int), .int .i64 (w4 : Int), .int .i64 (w5 : Int), .int .i64 (w6 : Int), .int .i64 (w7 : Int), .int .i64 (w8 : Int)] _ (by simp)) kB)
  have HY := Lib.hid (show CsAt (b + 1) (nC [n0, n1, n2, n3, n4, n5, n6, n7, n8]) wB by rw [← hz, ← hB]; exact CsAt.made wA #[.int .i64 n0, .int .i64 n1, .int .i64 n2, .int .i64 n3, .int .i64 n4, .int .i64 n5, .int .i64 n6, .int .i64 n7, .int .i64 n8] _ (by simp))
  clear kA kB hw hn hb
  show Calls Tryd.prog 47 #[.agg #[.int .i64 (w0 : Int), .int .i64 (w1 : Int), .int .i64 (w2 : Int), .int .i64 (w3 : Int), .int .i64 (w4 : Int), .int .i64 (w5 : Int), .int .i64 (w6 : Int), .int .i64 (w7 : Int), .int .i64 (w8 : Int)], .agg #[.int .i64 n0, .int .i64 n1, .int .i64 n2, .int .i64 n3, .int .i64 n4, .int .i64 n5, .int .i64 n6, .int .i64 n7, .int .i64 n8]] w _
  go_enter Tryd.func47, Tryd.ntmps47
  go_wp2_with (refine wp_ldN (b := b + 1) HY.out rfl rfl _ rfl rfl ?_)
  go_loop [8] (fun i => ∃ k : Nat, k ≤ 9 ∧ i = .int .i64 (k : Int) ∧ ∀ j, j < k → 0 ≤ gi [n0, n1, n2, n3, n4, n5, n6, n7, n8] j ∧ gi [n0, n1, n2, n3, n4, n5, n6, n7, n8] j < ((2 ^ gn [w0, w1, w2, w3, w4, w5, w6, w7, w8] j : Nat) : Int)) (fun i => 9 - (intOf i).toNat)
  case atStart => exact ⟨0, Nat.zero_le _, rfl, fun j hj => absurd hj (Nat.not_lt_zero j)⟩
  case round =>
    obtain ⟨k, hk, rfl, hall⟩ := hrel
    have HALL := Lib.hid hall
    clear hall
    by_cases hlt : k < 9
    · have hlI : (k : Int) < 9 := by omega
      have hi := HG.out k hlt
      have hc := HX.out.cell k (HW.out k hlt)
      rw [gi_il] at hc
      have hq := HB.out k
      obtain ⟨N, hN⟩ : ∃ N, gi [n0, n1, n2, n3, n4, n5, n6, n7, n8] k = N := ⟨_, rfl⟩
      obtain ⟨Q, hQ⟩ : ∃ N, gn [w0, w1, w2, w3, w4, w5, w6, w7, w8] k = N := ⟨_, rfl⟩
      rw [hN] at hi
      rw [hQ] at hc hq
      have hi2 : (#[Value.int .i64 n0, .int .i64 n1, .int .i64 n2, .int .i64 n3, .int .i64 n4, .int .i64 n5, .int .i64 n6, .int .i64 n7, .int .i64 n8] : Array Value)[k]? = some (.int .i64 N) := by rw [← hi, ← Array.getElem?_toList]; rfl
      have hri := fun W => run_ixN hlt hi2 W
      clear hi hi2
      by_cases hf : 0 ≤ N ∧ N < ((2 ^ Q : Nat) : Int)
      · have ht := shr_yes hf
        have HNX := Lib.hid (show ∀ j, j < k + 1 → 0 ≤ gi [n0, n1, n2, n3, n4, n5, n6, n7, n8] j ∧ gi [n0, n1, n2, n3, n4, n5, n6, n7, n8] j < ((2 ^ gn [w0, w1, w2, w3, w4, w5, w6, w7, w8] j : Nat) : Int) from fun j hj => by
          by_cases e : j = k
          · rw [e, hN, hQ]; exact hf
          · exact HALL.out j (by omega))
        clear hf hN hQ
        go_wp2
        go_round
        case rel => exact ⟨k + 1, by omega, by go_num, HNX.out⟩
        case measure => simp [intOf]; omega
      · have ht := shr_no hf
        have HE := Lib.hid (show decide (fits [w0, w1, w2, w3, w4, w5, w6, w7, w8] [n0, n1, n2, n3, n4, n5, n6, n7, n8]) = false from decide_eq_false fun x => hf (by rw [← hN, ← hQ]; exact x k hlt))
        clear hf hN hQ
        go_wp2
        go_ret
        exact ⟨by rw [HE.out]; rfl, HK.out⟩
    · have hlI : ¬ (k : Int) < 9 := by omega
      have HE := Lib.hid (show decide (fits [w0, w1, w2, w3, w4, w5, w6, w7, w8] [n0, n1, n2, n3, n4, n5, n6, n7, n8]) = true from decide_eq_true fun j hj => HALL.out j (by omega))
      go_wp2
      go_ret
      exact ⟨by rw [HE.out]; rfl, HK.out⟩
theorem il_length (l : List Nat) : (il l).length = l.length := List.length_map ..
theorem sm_le (ws : List Nat) {k : Nat} (h : k ≤ 9) : sm ws k ≤ sm ws 9 := by
  obtain ⟨d, e⟩ := Nat.exists_eq_add_of_le h
  rw [e]
  clear e h
  induction d with
  | zero => exact Nat.le_refl _
  | succ d ih => exact Nat.le_trans ih (by show sm ws (k + d) ≤ sm ws (k + d) + gn ws (k + d); omega)
set_option maxHeartbeats 1600000 in
theorem dbytes_any {ws : List Nat} (hw : ws.length = 9) (hs : sm ws 9 ≤ 1000) {n : Nat} (hn : sm ws 9 / 8 = n) (w : World) :
    Calls Tryd.prog 49 #[nV (il ws)] w fun e w' => e = .returned (.int .i64 (n : Int)) ∧ Keeps w w' := by
  have HNN := Lib.hid hn
  have HS := Lib.hid (fun k (h : k ≤ 9) => Nat.le_trans (sm_le ws h) hs)
  have HG := Lib.hid (fun k (h : k < 9) => nC_get (l := il ws) (k := k) (by rw [il_length, hw]; exact h))
  obtain ⟨w0, w1, w2, w3, w4, w5, w6, w7, w8, rfl⟩ := nine_of hw
  obtain ⟨b, hbz⟩ : ∃ b, w.heap.size = b := ⟨_, rfl⟩
  obtain ⟨wA, hA⟩ : ∃ wX, w.alloc (.cells #[.int .i64 (w0 : Int), .int .i64 (w1 : Int), .int .i64 (w2 : Int), .int .i64 (w3 : Int), .int .i64 (w4 : Int), .int .i64 (w5 : Int), .int .i64 (w6 : Int), .int .i64 (w7 : Int), .int .i64 (w8 : Int)] 113) = wX := ⟨_, rfl⟩
  have HK := Lib.hid (show Keeps w wA by rw [← hA]; exact (Keeps.refl w).alloc _)
  have HX := Lib.hid (show CsAt b [.int .i64 (w0 : Int), .int .i64 (w1 : Int), .int .i64 (w2 : Int), .int .i64 (w3 : Int), .int .i64 (w4 : Int), .int .i64 (w5 : Int), .int .i64 (w6 : Int), .int .i64 (w7 : Int), .int .i64 (w8 : Int)] wA by rw [← hbz, ← hA]; exact CsAt.made w #[.int .i64 (w0 : Int), .int .i64 (w1 : Int), .int .i64 (w2 : Int), .int .i64 (w3 : Int), .int .i64 (w4 : Int), .int .i64 (w5 : Int), .int .i64 (w6 : Int), .int .i64 (w7 : Int), .int .i64 (w8 : Int)] _ (by simp))
  clear hw hs hn
  show Calls Tryd.prog 49 #[.agg #[.int .i64 (w0 : Int), .int .i64 (w1 : Int), .int .i64 (w2 : Int), .int .i64 (w3 : Int), .int .i64 (w4 : Int), .int .i64 (w5 : Int), .int .i64 (w6 : Int), .int .i64 (w7 : Int), .int .i64 (w8 : Int)]] w _
  go_enter Tryd.func49, Tryd.ntmps49
  go_wp2_with (refine wp_ldW (b := b) HX.out rfl rfl _ rfl rfl ?_)
  go_loop [3, 7] (fun n i => ∃ k : Nat, k ≤ 9 ∧ i = .int .i64 (k : Int) ∧ n = .int .i64 ((sm [w0, w1, w2, w3, w4, w5, w6, w7, w8] k : Nat) : Int)) (fun _ i => 9 - (intOf i).toNat)
  case atStart => exact ⟨0, Nat.zero_le _, rfl, rfl⟩
  case round =>
    obtain ⟨k, hk, rfl, rfl⟩ := hrel
    have hsk := HS.out k hk
    obtain ⟨S, hS⟩ : ∃ S, sm [w0, w1, w2, w3, w4, w5, w6, w7, w8] k = S := ⟨_, rfl⟩
    rw [hS] at hsk ⊢
    by_cases hlt : k < 9
    · have hlI : (k : Int) < 9 := by omega
      have hi := HG.out k hlt
      rw [gi_il] at hi
      have hs1 := HS.out (k + 1) (by omega)
      have HN := Lib.hid (show sm [w0, w1, w2, w3, w4, w5, w6, w7, w8] (k + 1) = S + gn [w0, w1, w2, w3, w4, w5, w6, w7, w8] k by rw [← hS]; rfl)
      obtain ⟨Q, hQ⟩ : ∃ N, gn [w0, w1, w2, w3, w4, w5, w6, w7, w8] k = N := ⟨_, rfl⟩
      rw [hQ] at hi HN
      rw [HN.out] at hs1
      have hi2 : (#[.int .i64 (w0 : Int), .int .i64 (w1 : Int), .int .i64 (w2 : Int), .int .i64 (w3 : Int), .int .i64 (w4 : Int), .int .i64 (w5 : Int), .int .i64 (w6 : Int), .int .i64 (w7 : Int), .int .i64 (w8 : Int)] : Array Value)[k]? = some (.int .i64 (Q : Int)) := by rw [← hi, ← Array.getElem?_toList]; rfl
      have hri := fun W => run_ixW hlt hi2 W
      have wr1 := wrapI (a := (S : Int) + (Q : Int)) (by omega) (by omega)
      clear hi hi2 hQ hS
      go_wp2
      go_round
      case rel => exact ⟨k + 1, by omega, by go_num, by rw [HN.out]; go_num⟩
      case measure => simp [intOf]; omega
    · have hlI : ¬ (k : Int) < 9 := by omega
      have hk9 : k = 9 := by omega
      have HE := Lib.hid (show sm [w0, w1, w2, w3, w4, w5, w6, w7, w8] 9 = S by rw [← hk9]; exact hS)
      clear hS hk9
      obtain ⟨P, hP⟩ : ∃ P : Nat, S / 8 = P := ⟨_, rfl⟩
      have hd2 : (S : Int) / 8 = (P : Int) := by omega
      have hd : (S : Int).tdiv 8 = (P : Int) := by rw [Int.tdiv_eq_ediv_of_nonneg (by omega)]; exact hd2
      have wr1 := wrapI (a := (P : Int)) (by omega) (by omega)
      have HP := Lib.hid (show P = n by rw [← hP, ← HNN.out, HE.out])
      clear hP
      go_wp2
      go_ret
      exact ⟨by rw [← HP.out]; rfl, HK.out⟩
/-- Where the bits' writing stands. -/
def TxAt (ws ns : List Nat) (w : World) (s held many : Value) (k : Nat) (wr : World) : Prop :=
  ∃ c m : Nat, m < 8 ∧ many = .int .i64 (m : Int) ∧ held = .int .i64 ((pk ws ns k % 2 ^ m : Nat) : Int) ∧ 8 * c + m = sm ws k ∧ Own wr w.heap.size s (be c (pk ws ns k / 2 ^ m)) ∧ Keeps w wr
def TxIn (V M S : Nat) (w : World) (s many : Value) (wr : World) : Prop :=
  ∃ c m : Nat, m ≤ M ∧ many = .int .i64 (m : Int) ∧ 8 * c + m = S ∧ Own wr w.heap.size s (be c (V / 2 ^ m)) ∧ Keeps w wr
set_option maxHeartbeats 6400000 in
theorem dwtext_any {ws ns : List Nat} (hw : ws.length = 9) (hn : ns.length = 9) (hb : ∀ k, gn ws k ≤ 24) (hf : ∀ k, k < 9 → gn ns k < 2 ^ gn ws k) (h8 : sm ws 9 % 8 = 0) (hs : sm ws 9 ≤ 1000) (w : World) :
    Calls Tryd.prog 48 #[nV (il ws), nV (il ns)] w fun e w' => e = .returned (.string (st (txW ws ns))) ∧ Keeps w w' := by
  have HS := Lib.hid (fun k (h : k ≤ 9) => Nat.le_trans (sm_le ws h) hs)
  have HB := Lib.hid hb
  have HF := Lib.hid hf
  have H8 := Lib.hid h8
  have HG := Lib.hid (fun k (h : k < 9) => nC_get (l := il ns) (k := k) (by rw [il_length, hn]; exact h))
  have HW := Lib.hid (fun k (h : k < 9) => nC_get (l := il ws) (k := k) (by rw [il_length, hw]; exact h))
  obtain ⟨w0, w1, w2, w3, w4, w5, w6, w7, w8, rfl⟩ := nine_of hw
  obtain ⟨n0, n1, n2, n3, n4, n5, n6, n7, n8, rfl⟩ := nine_of hn
  obtain ⟨b, hbz⟩ : ∃ b, w.heap.size = b := ⟨_, rfl⟩
  obtain ⟨wA, hA⟩ : ∃ wX, w.alloc (.cells #[.int .i64 (w0 : Int), .int .i64 (w1 : Int), .int .i64 (w2 : Int), .int .i64 (w3 : Int), .int .i64 (w4 : Int), .int .i64 (w5 : Int), .int .i64 (w6 : Int), .int .i64 (w7 : Int), .int .i64 (w8 : Int)] 113) = wX := ⟨_, rfl⟩
  obtain ⟨wB, hB⟩ : ∃ wX, wA.alloc (.cells #[.int .i64 (n0 : Int), .int .i64 (n1 : Int), .int .i64 (n2 : Int), .int .i64 (n3 : Int), .int .i64 (n4 : Int), .int .i64 (n5 : Int), .int .i64 (n6 : Int), .int .i64 (n7 : Int), .int .i64 (n8 : Int)] 111) = wX := ⟨_, rfl⟩
  have hz : wA.heap.size = b + 1 := by rw [← hA, World.size_alloc, hbz]
  have kA : Keeps w wA := by rw [← hA]; exact (Keeps.refl w).alloc _
  have kB : Keeps wA wB := by rw [← hB]; exact (Keeps.refl wA).alloc _
  have HK := Lib.hid (kA.trans kB)
  have HX := Lib.hid (show CsAt b (nC (il [w0, w1, w2, w3, w4, w5, w6, w7, w8])) wB from CsAt.keeps (w := wA) (by rw [← hbz, ← hA]; exact CsAt.made w #[.int .i64 (w0 : Int), .int .i64 (w1 : Int), .int .i64 (w2 : Int), .int .i64 (w3 : Int), .int .i64 (w4 : Int), .int .i64 (w5 : Int), .int .i64 (w6 : Int), .int .i64 (w7 : Int), .int .i64 (w8 : Int)] _ (by simp)) kB)
  have HY := Lib.hid (show CsAt (b + 1) [.int .i64 (n0 : Int), .int .i64 (n1 : Int), .int .i64 (n2 : Int), .int .i64 (n3 : Int), .int .i64 (n4 : Int), .int .i64 (n5 : Int), .int .i64 (n6 : Int), .int .i64 (n7 : Int), .int .i64 (n8 : Int)] wB by rw [← hz, ← hB]; exact CsAt.made wA #[.int .i64 (n0 : Int), .int .i64 (n1 : Int), .int .i64 (n2 : Int), .int .i64 (n3 : Int), .int .i64 (n4 : Int), .int .i64 (n5 : Int), .int .i64 (n6 : Int), .int .i64 (n7 : Int), .int .i64 (n8 : Int)] _ (by simp))
  clear kA kB hw hn hb hf h8 hs
  show Calls Tryd.prog 48 #[.agg #[.int .i64 (w0 : Int), .int .i64 (w1 : Int), .int .i64 (w2 : Int), .int .i64 (w3 : Int), .int .i64 (w4 : Int), .int .i64 (w5 : Int), .int .i64 (w6 : Int), .int .i64 (w7 : Int), .int .i64 (w8 : Int)], .agg #[.int .i64 (n0 : Int), .int .i64 (n1 : Int), .int .i64 (n2 : Int), .int .i64 (n3 : Int), .int .i64 (n4 : Int), .int .i64 (n5 : Int), .int .i64 (n6 : Int), .int .i64 (n7 : Int), .int .i64 (n8 : Int)]] w _
  go_enter Tryd.func48, Tryd.ntmps48
  go_wp2_with (refine wp_ldN (b := b + 1) HY.out rfl rfl _ rfl rfl ?_)
  go_loopw [5, 6, 7, 11] (fun s held many i wr => ∃ k : Nat, k ≤ 9 ∧ i = .int .i64 (k : Int) ∧ TxAt [w0, w1, w2, w3, w4, w5, w6, w7, w8] [n0, n1, n2, n3, n4, n5, n6, n7, n8] wB s held many k wr) (fun _ _ _ i _ => 9 - (intOf i).toNat)
  case atStart => exact ⟨0, Nat.zero_le _, rfl, 0, 0, by decide, rfl, rfl, rfl, Own.nil _ _, Keeps.refl _⟩
  case round =>
    obtain ⟨k, hk, rfl, c, m, hm, rfl, rfl, hc, hown, hkp⟩ := hrel
    have HO := Lib.hid hown
    have HKP := Lib.hid hkp
    have HC := Lib.hid hc
    clear hown hkp hc
    by_cases hlt : k < 9
    · have hlI : (k : Int) < 9 := by omega
      have hi := HG.out k hlt
      have hj := HW.out k hlt
      rw [gi_il] at hi hj
      have hq := HB.out k
      have hfk := HF.out k hlt
      have hs1 := HS.out (k + 1) (by omega)
      have HN := Lib.hid (show sm [w0, w1, w2, w3, w4, w5, w6, w7, w8] (k + 1) = sm [w0, w1, w2, w3, w4, w5, w6, w7, w8] k + gn [w0, w1, w2, w3, w4, w5, w6, w7, w8] k from rfl)
      have HV := Lib.hid (show pk [w0, w1, w2, w3, w4, w5, w6, w7, w8] [n0, n1, n2, n3, n4, n5, n6, n7, n8] (k + 1) = pk [w0, w1, w2, w3, w4, w5, w6, w7, w8] [n0, n1, n2, n3, n4, n5, n6, n7, n8] k * 2 ^ gn [w0, w1, w2, w3, w4, w5, w6, w7, w8] k + gn [n0, n1, n2, n3, n4, n5, n6, n7, n8] k from rfl)
      obtain ⟨Q, hQ⟩ : ∃ N, gn [w0, w1, w2, w3, w4, w5, w6, w7, w8] k = N := ⟨_, rfl⟩
      obtain ⟨N, hN⟩ : ∃ N, gn [n0, n1, n2, n3, n4, n5, n6, n7, n8] k = N := ⟨_, rfl⟩
      obtain ⟨V, hV⟩ : ∃ N, pk [w0, w1, w2, w3, w4, w5, w6, w7, w8] [n0, n1, n2, n3, n4, n5, n6, n7, n8] k = N := ⟨_, rfl⟩
      obtain ⟨V', hV'⟩ : ∃ N, pk [w0, w1, w2, w3, w4, w5, w6, w7, w8] [n0, n1, n2, n3, n4, n5, n6, n7, n8] (k + 1) = N := ⟨_, rfl⟩
      rw [hQ, hN, hV, hV'] at HV
      rw [hV] at HO
      rw [hQ] at hj hq hfk HN
      rw [hN] at hi hfk
      rw [hV]
      have HV2 := Lib.hid hV'
      have hi2 : (#[.int .i64 (n0 : Int), .int .i64 (n1 : Int), .int .i64 (n2 : Int), .int .i64 (n3 : Int), .int .i64 (n4 : Int), .int .i64 (n5 : Int), .int .i64 (n6 : Int), .int .i64 (n7 : Int), .int .i64 (n8 : Int)] : Array Value)[k]? = some (.int .i64 (N : Int)) := by rw [← hi, ← Array.getElem?_toList]; rfl
      have hri := fun W => run_ixN hlt hi2 W
      obtain ⟨H, hH⟩ : ∃ N, V % 2 ^ m = N := ⟨_, rfl⟩
      obtain ⟨J, hJ⟩ : ∃ N, V' % 2 ^ (m + Q) = N := ⟨_, rfl⟩
      have hHb : H < 128 := by rw [← hH]; exact Nat.lt_of_lt_of_le (Nat.mod_lt _ (Nat.two_pow_pos m)) (by rw [show (128 : Nat) = 2 ^ 7 from rfl]; exact Nat.pow_le_pow_right (by decide) (by omega))
      have hQb : 2 ^ Q ≤ 16777216 := by rw [show (16777216 : Nat) = 2 ^ 24 from rfl]; exact Nat.pow_le_pow_right (by decide) hq
      have hHQ : H * 2 ^ Q ≤ 128 * 16777216 := Nat.mul_le_mul (by omega) hQb
      have hJe : H * 2 ^ Q + N = J := by rw [← hH, ← hJ, HV.out]; exact held_next hfk
      have hJd : V' / 2 ^ (m + Q) = V / 2 ^ m := by rw [HV.out]; exact next_div hfk
      have e1 : (H : Int) * 2 ^ Q = ((H * 2 ^ Q : Nat) : Int) := by push_cast; rfl
      have hor : bits .or .i64 ((H * 2 ^ Q : Nat) : Int) (N : Int) = (J : Int) := by
        rw [i64_join Q (by omega) (by omega) (by omega) (by exact_mod_cast hfk) (by omega) (by rw [show ((2 : Int) ^ Q) = ((2 ^ Q : Nat) : Int) by push_cast; rfl]; exact_mod_cast Nat.mul_mod_left H (2 ^ Q))]
        omega
      have v1 := wrapI (a := ((H * 2 ^ Q : Nat) : Int)) (by omega) (by omega)
      have e2 : (m : Int) + (Q : Int) = ((m + Q : Nat) : Int) := by push_cast; rfl
      have v2 := wrapI (a := ((m + Q : Nat) : Int)) (by omega) (by omega)
      have v3 := wrapI (a := (k : Int) + 1) (by omega) (by omega)
      have HJd := Lib.hid hJd
      have HJ := Lib.hid hJ
      rw [hH]
      obtain ⟨H2, hH2⟩ : ∃ x, H * 2 ^ Q = x := ⟨_, rfl⟩
      rw [hH2] at e1 hor v1
      have hJb : J ≤ 4000000000 := by omega
      have HSM := Lib.hid (show 8 * c + (m + Q) = sm [w0, w1, w2, w3, w4, w5, w6, w7, w8] (k + 1) by rw [HN.out, ← HC.out]; omega)
      have hMb : m + Q ≤ 40 := by omega
      obtain ⟨M, hM⟩ : ∃ x, m + Q = x := ⟨_, rfl⟩
      rw [hM] at e2 v2 HJd HJ HSM hMb
      have HM := Lib.hid hM
      clear hi hi2 hQ hN hV hV' hH hJ hJe hJd hHQ hfk hM
      have y1 := (HX.out.keeps HKP.out).cell k hj
      go_wp2
      go_quiet (fail)
      obtain ⟨w5, hw5⟩ : ∃ W, wr.drewN nq = W := ⟨_, rfl⟩
      have hw : Eqv wr w5 := by rw [← hw5]; exact Eqv.drewN _ _
      rw [hw5]
      have HO5 := Lib.hid (HO.out.eqv hw)
      have HK5 := Lib.hid (HKP.out.eqv hw)
      clear hw hw5 y1
      go_wp2
      obtain ⟨wJ, hwJ⟩ : ∃ wJ, wJ = w5 := ⟨_, rfl⟩
      subst hwJ
      clear e1 e2 hor v1 v2 hri hj
      go_loopw [5, 7] (fun s many wr2 => TxIn V' M (sm [w0, w1, w2, w3, w4, w5, w6, w7, w8] (k + 1)) wB s many wr2) (fun _ many _ => (intOf many).toNat)
      case atStart => exact ⟨c, M, Nat.le_refl _, rfl, HSM.out, by rw [HJd.out]; exact HO5.out, HK5.out⟩
      case round =>
        obtain ⟨c2, m2, hm2, rfl, hc2, hown2, hkp2⟩ := hrel
        have HO6 := Lib.hid hown2
        have HK6 := Lib.hid hkp2
        have HC2 := Lib.hid hc2
        have hsk1 := HS.out (k + 1) (by omega)
        rw [← hc2] at hsk1
        clear hown2 hkp2 hc2
        by_cases h8 : 8 ≤ m2
        · have h8i : (8 : Int) ≤ (m2 : Int) := by omega
          obtain ⟨p, hp⟩ : ∃ p, m2 - 8 = p := ⟨_, rfl⟩
          have hpi : (m2 : Int) - 8 = (p : Int) := by omega
          have v4 := wrapI (a := (p : Int)) (by omega) (by omega)
          obtain ⟨D, hD⟩ : ∃ D, J / 2 ^ p = D := ⟨_, rfl⟩
          have hdi : (J : Int) / 2 ^ p = (D : Int) := by rw [← hD]; push_cast; rfl
          have hDb : D ≤ 4000000000 := by rw [← hD]; exact Nat.le_trans (Nat.div_le_self _ _) hJb
          have v5 := wrapI (a := (D : Int)) (by omega) (by omega)
          obtain ⟨y, hy⟩ : ∃ y, Ds.u8 (V' / 2 ^ p % 256) = y := ⟨_, rfl⟩
          have hyn : D % 256 = y.toNat := by rw [← hy, u8_nat (Nat.mod_lt _ (by decide)), ← hD, ← HJ.out, ← hp]; exact held_byte h8 hm2
          have e8 : (D : Int) % 256 = (y.toNat : Int) := by omega
          have HB2 := Lib.hid (show be c2 (V' / 2 ^ m2) ++ [y] = be (c2 + 1) (V' / 2 ^ p) by rw [← hy, ← hp]; exact be_step h8)
          have HLN := Lib.hid (show (be c2 (V' / 2 ^ m2)).length ≤ 1000000000 by rw [be_length]; omega)
          have HP := Lib.hid hp
          have hy8 := u8_bd y
          clear hD hy hyn hp
          go_wp2_with (at_builtin; refine wp_push8 rfl _ _ rfl (w0 := wB) y HO6.out rfl rfl HLN.out HK6.out ?_; intro v7 w7 o7 k7; have HO7 := Lib.hid o7; have HK7 := Lib.hid k7; clear o7 k7)
          go_roundw
          case rel => exact ⟨c2 + 1, p, by have := HP.out; omega, rfl, by have := HP.out; have := HC2.out; omega, by rw [← HB2.out]; exact HO7.out, HK7.out⟩
          case measure => have := HP.out; simp [intOf]; omega
        · have h8i : ¬ (8 : Int) ≤ (m2 : Int) := by omega
          obtain ⟨A, hA2⟩ : ∃ A : Nat, 2 ^ m2 = A := ⟨_, rfl⟩
          have hAb : A ≤ 256 := by rw [← hA2, show (256 : Nat) = 2 ^ 8 from rfl]; exact Nat.pow_le_pow_right (by decide) (by omega)
          have hA1 : 1 ≤ A := by rw [← hA2]; exact Nat.two_pow_pos m2
          have hAi : (2 : Int) ^ m2 = (A : Int) := by rw [← hA2]; push_cast; rfl
          have v4 := wrapI (a := (A : Int)) (by omega) (by omega)
          have v5 := wrapI (a := (A : Int) - 1) (by omega) (by omega)
          obtain ⟨G, hGe⟩ : ∃ G, V' % 2 ^ m2 = G := ⟨_, rfl⟩
          have hand : bits .and .i64 (J : Int) ((A : Int) - 1) = (G : Int) := by
            rw [← hGe]
            rw [i64_mask m2 (by omega) (by omega) (m := (A : Int) - 1) (by rw [hA2]; omega) (by omega), ← HJ.out, ← mod_mod_low (V := V') hm2]
            push_cast; rfl
          have HVP := Lib.hid (show pk [w0, w1, w2, w3, w4, w5, w6, w7, w8] [n0, n1, n2, n3, n4, n5, n6, n7, n8] (k + 1) = V' from HV2.out)
          have HGE := Lib.hid hGe
          clear hA2 hGe
          go_wp2
          go_roundw
          case rel => exact ⟨k + 1, by omega, by go_num, c2, m2, by omega, rfl, by rw [HVP.out, HGE.out], HC2.out, by rw [HVP.out]; exact HO6.out, HK6.out⟩
          case measure => simp [intOf]; omega
    · have hlI : ¬ (k : Int) < 9 := by omega
      have hk9 : k = 9 := by omega
      have hm0 : m = 0 := by
        have := HC.out
        have h8 := H8.out
        rw [hk9] at this
        omega
      have HT := Lib.hid (show be c (pk [w0, w1, w2, w3, w4, w5, w6, w7, w8] [n0, n1, n2, n3, n4, n5, n6, n7, n8] k / 2 ^ m) = txW [w0, w1, w2, w3, w4, w5, w6, w7, w8] [n0, n1, n2, n3, n4, n5, n6, n7, n8] by
        have := HC.out
        rw [hm0, hk9] at this
        rw [hm0, hk9, Nat.pow_zero, Nat.div_one]
        unfold txW
        congr 1
        omega)
      have hcv := HO.out.text
      rw [HT.out] at hcv
      clear hk9 hm0
      go_wp2
      go_ret
      exact ⟨rfl, HK.out.trans HKP.out⟩
/-- Numbers of which the first k ones are there. -/
def fk (f : Nat → Nat) (k : Nat) : List Value := (List.range 9).map fun j => .int .i64 ((if j < k then f j else 0 : Nat) : Int)
theorem fk_length (f : Nat → Nat) (k : Nat) : (fk f k).length = 9 := by unfold fk; rw [List.length_map, List.length_range]
theorem fk_get (f : Nat → Nat) (k : Nat) {j : Nat} (h : j < 9) : (fk f k)[j]? = some (.int .i64 ((if j < k then f j else 0 : Nat) : Int)) := by
  unfold fk
  rw [List.getElem?_map, List.getElem?_range h]; rfl
theorem fk_set (f : Nat → Nat) {k : Nat} (hk : k < 9) : (fk f k).set k (.int .i64 (f k : Int)) = fk f (k + 1) := by
  refine List.ext_getElem? fun j => ?_
  by_cases h : j < 9
  · rw [fk_get f (k + 1) h]
    by_cases e : k = j
    · subst e
      rw [List.getElem?_set_self (by rw [fk_length]; exact hk), if_pos (Nat.lt_succ_self k)]
    · rw [List.getElem?_set_ne e, fk_get f k h]
      by_cases hj : j < k
      · rw [if_pos hj, if_pos (by omega)]
      · rw [if_neg hj, if_neg (by omega)]
  · rw [List.getElem?_eq_none (by rw [List.length_set, fk_length]; omega), List.getElem?_eq_none (by rw [fk_length]; omega)]
theorem fk_nine (f : Nat → Nat) : fk f 9 = nC (il ((List.range 9).map f)) := rfl
theorem fk_one (f : Nat → Nat) (k : Nat) : ∀ u ∈ fk f k, u.oneCell' = true := by
  intro u hu
  obtain ⟨x, _, rfl⟩ := List.mem_map.1 hu
  rfl
def RdAt (ws : List Nat) (L : List UInt8) (w : World) (bl : Nat) (f : Nat → Nat) (s held many : Value) (k : Nat) (wr : World) : Prop :=
  ∃ c m : Nat, m < 8 ∧ many = .int .i64 (m : Int) ∧ held = .int .i64 ((nb (L.take c) % 2 ^ m : Nat) : Int) ∧ 8 * c = sm ws k + m ∧ s = .string (st (L.drop c)) ∧ CsAt bl (fk f k) wr ∧ Only bl w wr
def RdIn (L : List UInt8) (S Q : Nat) (w : World) (s held many : Value) (wr : World) : Prop :=
  ∃ c m : Nat, m < Q + 8 ∧ many = .int .i64 (m : Int) ∧ held = .int .i64 ((nb (L.take c) % 2 ^ m : Nat) : Int) ∧ 8 * c = S + m ∧ s = .string (st (L.drop c)) ∧ Eqv w wr
set_option maxHeartbeats 6400000 in
theorem dread_any {ws : List Nat} (hw : ws.length = 9) (hb : ∀ k, gn ws k ≤ 24) (h8 : sm ws 9 % 8 = 0) (hs : sm ws 9 ≤ 1000) {S : ByteArray} (hS : sm ws 9 / 8 ≤ S.size) (hS2 : S.size ≤ 1000000) (w : World) :
    Calls Tryd.prog 50 #[nV (il ws), .string S] w fun e w' => e = .returned (nV (il (rdW ws (ls S)))) ∧ Keeps w w' := by
  obtain ⟨L, hL⟩ : ∃ L, ls S = L := ⟨_, rfl⟩
  obtain rfl : S = st L := by rw [← hL, st_ls]
  rw [hL]
  rw [st_size] at hS hS2
  clear hL
  have HS := Lib.hid (fun k (h : k ≤ 9) => Nat.le_trans (sm_le ws h) hs)
  have HS9 := Lib.hid (fun k (h : k ≤ 9) => sm_le ws h)
  have HB := Lib.hid hb
  have H8 := Lib.hid h8
  have HW := Lib.hid (fun k (h : k < 9) => nC_get (l := il ws) (k := k) (by rw [il_length, hw]; exact h))
  have HRD : (List.range 9).map (fun k => fd (nb (L.take (sm ws 9 / 8))) (sm ws 9) (sm ws k) (gn ws k)) = rdW ws L := rfl
  obtain ⟨f, hf⟩ : ∃ f : Nat → Nat, f = fun k => fd (nb (L.take (sm ws 9 / 8))) (sm ws 9) (sm ws k) (gn ws k) := ⟨_, rfl⟩
  rw [← hf] at HRD
  have HFF := Lib.hid (fun k => show f k = fd (nb (L.take (sm ws 9 / 8))) (sm ws 9) (sm ws k) (gn ws k) by rw [hf])
  rw [← HRD, show nV (il ((List.range 9).map f)) = .agg (fk f 9).toArray from rfl]
  have HSL := Lib.hid hS
  obtain ⟨w0, w1, w2, w3, w4, w5, w6, w7, w8, rfl⟩ := nine_of hw
  obtain ⟨b, hbz⟩ : ∃ b, w.heap.size = b := ⟨_, rfl⟩
  obtain ⟨wA, hA⟩ : ∃ wX, w.alloc (.cells #[.int .i64 (w0 : Int), .int .i64 (w1 : Int), .int .i64 (w2 : Int), .int .i64 (w3 : Int), .int .i64 (w4 : Int), .int .i64 (w5 : Int), .int .i64 (w6 : Int), .int .i64 (w7 : Int), .int .i64 (w8 : Int)] 113) = wX := ⟨_, rfl⟩
  obtain ⟨wB, hB⟩ : ∃ wX, wA.alloc (.cells #[.int .i64 0, .int .i64 0, .int .i64 0, .int .i64 0, .int .i64 0, .int .i64 0, .int .i64 0, .int .i64 0, .int .i64 0] 111) = wX := ⟨_, rfl⟩
  obtain ⟨wC, hC⟩ : ∃ wX, wB.alloc (.cells #[.int .i64 0, .int .i64 0, .int .i64 0, .int .i64 0, .int .i64 0, .int .i64 0, .int .i64 0, .int .i64 0, .int .i64 0] 111) = wX := ⟨_, rfl⟩
  have hz : wA.heap.size = b + 1 := by rw [← hA, World.size_alloc, hbz]
  have hz2 : wB.heap.size = b + 2 := by rw [← hB, World.size_alloc, hz]
  have kA : Keeps w wA := by rw [← hA]; exact (Keeps.refl w).alloc _
  have kB : Keeps wA wB := by rw [← hB]; exact (Keeps.refl wA).alloc _
  have kC : Keeps wB wC := by rw [← hC]; exact (Keeps.refl wB).alloc _
  have HK := Lib.hid ((kA.trans kB).trans kC)
  have HX := Lib.hid (show CsAt b [.int .i64 (w0 : Int), .int .i64 (w1 : Int), .int .i64 (w2 : Int), .int .i64 (w3 : Int), .int .i64 (w4 : Int), .int .i64 (w5 : Int), .int .i64 (w6 : Int), .int .i64 (w7 : Int), .int .i64 (w8 : Int)] wC from CsAt.keeps (w := wA) (by rw [← hbz, ← hA]; exact CsAt.made w #[.int .i64 (w0 : Int), .int .i64 (w1 : Int), .int .i64 (w2 : Int), .int .i64 (w3 : Int), .int .i64 (w4 : Int), .int .i64 (w5 : Int), .int .i64 (w6 : Int), .int .i64 (w7 : Int), .int .i64 (w8 : Int)] _ (by simp)) (kB.trans kC))
  have HY := Lib.hid (show CsAt (b + 1) [.int .i64 0, .int .i64 0, .int .i64 0, .int .i64 0, .int .i64 0, .int .i64 0, .int .i64 0, .int .i64 0, .int .i64 0] wC from CsAt.keeps (w := wB) (by rw [← hz, ← hB]; exact CsAt.made wA #[.int .i64 0, .int .i64 0, .int .i64 0, .int .i64 0, .int .i64 0, .int .i64 0, .int .i64 0, .int .i64 0, .int .i64 0] _ (by simp)) kC)
  have HZ := Lib.hid (show CsAt (b + 2) (fk f 0) wC by rw [← hz2, ← hC]; exact CsAt.made wB #[.int .i64 0, .int .i64 0, .int .i64 0, .int .i64 0, .int .i64 0, .int .i64 0, .int .i64 0, .int .i64 0, .int .i64 0] _ (by simp))
  clear kA kB kC hw hb h8 hs hf HRD hS
  show Calls Tryd.prog 50 #[.agg #[.int .i64 (w0 : Int), .int .i64 (w1 : Int), .int .i64 (w2 : Int), .int .i64 (w3 : Int), .int .i64 (w4 : Int), .int .i64 (w5 : Int), .int .i64 (w6 : Int), .int .i64 (w7 : Int), .int .i64 (w8 : Int)], .string (st L)] w _
  obtain ⟨X, hX⟩ : ∃ X, st L = X := ⟨_, rfl⟩
  rw [hX]
  go_enter Tryd.func50, Tryd.ntmps50
  go_wp2_with (refine wp_ldW (b := b) HX.out rfl rfl _ rfl rfl ?_)
  go_loopw [1, 6, 7, 11] (fun s held many i wr => ∃ k : Nat, k ≤ 9 ∧ i = .int .i64 (k : Int) ∧ RdAt [w0, w1, w2, w3, w4, w5, w6, w7, w8] L wC (b + 2) f s held many k wr) (fun _ _ _ i _ => 9 - (intOf i).toNat)
  case atStart => exact ⟨0, Nat.zero_le _, rfl, 0, 0, by decide, rfl, rfl, rfl, by rw [← hX]; rfl, HZ.out, Only.refl _ _⟩
  case round =>
    obtain ⟨k, hk, rfl, c, m, hm, rfl, rfl, hc, rfl, hcs, hon⟩ := hrel
    have HON := Lib.hid hon
    have HCS := Lib.hid hcs
    have HC := Lib.hid hc
    have hx0 := (HX.out.only (c := b + 2) (by omega) hon)
    have HX2 := Lib.hid hx0
    clear hon hcs hc hx0
    by_cases hlt : k < 9
    · have hlI : (k : Int) < 9 := by omega
      have hj := HW.out k hlt
      rw [gi_il] at hj
      have hq := HB.out k
      have hs1 := HS.out (k + 1) (by omega)
      have hs9 := HS9.out (k + 1) (by omega)
      have HN := Lib.hid (show sm [w0, w1, w2, w3, w4, w5, w6, w7, w8] (k + 1) = sm [w0, w1, w2, w3, w4, w5, w6, w7, w8] k + gn [w0, w1, w2, w3, w4, w5, w6, w7, w8] k from rfl)
      have HFK := Lib.hid (HFF.out k)
      have hset := fk_set f hlt
      have hzc := HCS.out.cell k (fk_get f k hlt)
      have hzf := HCS.out.fz k (by rw [fk_length]; exact hlt)
      rw [if_neg (Nat.lt_irrefl k)] at hzc
      obtain ⟨F, hF⟩ : ∃ N, f k = N := ⟨_, rfl⟩
      obtain ⟨Q, hQ⟩ : ∃ N, gn [w0, w1, w2, w3, w4, w5, w6, w7, w8] k = N := ⟨_, rfl⟩
      obtain ⟨U, hU⟩ : ∃ N, sm [w0, w1, w2, w3, w4, w5, w6, w7, w8] k = N := ⟨_, rfl⟩
      rw [hQ] at hj hq HN HFK
      rw [hU] at HFK HN HC
      rw [hF] at HFK hset
      rw [HN.out] at hs1 hs9
      have hi2 : (#[.int .i64 (w0 : Int), .int .i64 (w1 : Int), .int .i64 (w2 : Int), .int .i64 (w3 : Int), .int .i64 (w4 : Int), .int .i64 (w5 : Int), .int .i64 (w6 : Int), .int .i64 (w7 : Int), .int .i64 (w8 : Int)] : Array Value)[k]? = some (.int .i64 (Q : Int)) := by rw [← hj, ← Array.getElem?_toList]; rfl
      have hri := fun W => run_ixW hlt hi2 W
      obtain ⟨H, hH⟩ : ∃ N, nb (L.take c) % 2 ^ m = N := ⟨_, rfl⟩
      obtain ⟨T, hT⟩ : ∃ T, st (L.drop c) = T := ⟨_, rfl⟩
      rw [hH, hT]
      have HST := Lib.hid (show RdIn L U Q wr (.string T) (.int .i64 (H : Int)) (.int .i64 (m : Int)) wr from ⟨c, m, by omega, rfl, by rw [hH], HC.out, by rw [hT], Eqv.refl _⟩)
      have HNK := Lib.hid hs9
      clear hj hi2 hQ hU hF hH hT hs9
      go_wp2
      obtain ⟨wJ, hwJ⟩ : ∃ wJ, wJ = wr := ⟨_, rfl⟩
      subst hwJ
      clear hri
      go_loopw [1, 6, 7] (fun s held many wr2 => RdIn L U Q wJ s held many wr2) (fun _ _ many _ => Q - (intOf many).toNat)
      case atStart => exact HST.out
      case round =>
        obtain ⟨c2, m2, hm2, rfl, rfl, hc2, rfl, hev⟩ := hrel
        have HE := Lib.hid hev
        have HC2 := Lib.hid hc2
        clear hev hc2
        obtain ⟨H2, hH2⟩ : ∃ N, nb (L.take c2) % 2 ^ m2 = N := ⟨_, rfl⟩
        have hH2b : H2 < 4294967296 := by rw [← hH2]; exact Nat.lt_of_lt_of_le (Nat.mod_lt _ (Nat.two_pow_pos m2)) (by rw [show (4294967296 : Nat) = 2 ^ 32 from rfl]; exact Nat.pow_le_pow_right (by decide) (by omega))
        have HH2 := Lib.hid hH2
        rw [hH2]
        clear hH2
        by_cases h1 : m2 < Q
        · have h1i : (m2 : Int) < (Q : Int) := by omega
          have hcl : c2 < L.length := by have := HC2.out; have := HSL.out; have := HNK.out; have := H8.out; omega
          have hmr := held_more (l := L) (c := c2) (m := m2) hcl
          rw [HH2.out] at hmr
          obtain ⟨T, hT⟩ : ∃ T, st (L.drop c2) = T := ⟨_, rfl⟩
          obtain ⟨T2, hT2⟩ : ∃ T, st (L.drop (c2 + 1)) = T := ⟨_, rfl⟩
          have hTz : T.size = L.length - c2 := by rw [← hT, st_size, List.length_drop]
          have z0 : 0 < T.size := by omega
          have z1 : (0 : Int) < (T.size : Int) := by omega
          have z2 : (1 : Int) ≤ (T.size : Int) := by omega
          have z3 : 1 ≤ T.size := by omega
          have g0 := ls_get T 0 z0
          rw [show cf (ls T) 0 = cf L c2 by rw [← hT, ls_st, cf_drop, Nat.add_zero]] at g0
          have hex : T.extract 1 T.size = T2 := by
            rw [← hT2, ← st_ls (T.extract 1 T.size), ls_part, List.take_of_length_le (by rw [List.length_drop, ← ls_size]; exact Nat.le_refl _), ← hT, ls_st, List.drop_drop]
          obtain ⟨y, hy⟩ : ∃ y, cf L c2 = y := ⟨_, rfl⟩
          rw [hy] at g0 hmr
          have hyb := u8_bd y
          obtain ⟨J, hJ⟩ : ∃ J, nb (L.take (c2 + 1)) % 2 ^ (m2 + 8) = J := ⟨_, rfl⟩
          rw [hJ] at hmr
          have e1 : (H2 : Int) * 256 = ((H2 * 256 : Nat) : Int) := by push_cast; rfl
          have v1 := wrapI (a := ((H2 * 256 : Nat) : Int)) (by omega) (by omega)
          have hor : bits .or .i64 ((H2 * 256 : Nat) : Int) (y.toNat : Int) = (J : Int) := by
            rw [i64_join 8 (by omega) (by omega) (by omega) (by omega) (by omega) (by omega)]
            omega
          have e8 : (y.toNat : Int) % 256 = (y.toNat : Int) := by omega
          have v2 := wrapI (a := (m2 : Int) + 8) (by omega) (by omega)
          have HNX := Lib.hid (fun W (q : Eqv wr W) => show RdIn L U Q wJ (.string T2) (.int .i64 (J : Int)) (.int .i64 ((m2 : Int) + 8)) W from ⟨c2 + 1, m2 + 8, by omega, by rw [Int.natCast_add]; rfl, by rw [hJ], by have := HC2.out; omega, by rw [hT2], HE.out.trans q⟩)
          obtain ⟨H3, hH3⟩ : ∃ x, H2 * 256 = x := ⟨_, rfl⟩
          rw [hH3] at e1 hor v1
          rw [hT]
          clear hT hT2 hTz hy hJ hmr hH3
          go_wp2
          go_quiet (fail)
          obtain ⟨w5, hw5⟩ : ∃ W, wr.drewN nq = W := ⟨_, rfl⟩
          have hw : Eqv wr w5 := by rw [← hw5]; exact Eqv.drewN _ _
          rw [hw5]
          have HNY := Lib.hid (HNX.out w5 hw)
          clear hw hw5
          go_wp2
          go_roundw
          case rel => exact HNY.out
          case measure => simp [intOf]; omega
        · have h1i : ¬ (m2 : Int) < (Q : Int) := by omega
          obtain ⟨p, hp⟩ : ∃ p, m2 - Q = p := ⟨_, rfl⟩
          have hpi : (m2 : Int) - (Q : Int) = (p : Int) := by omega
          have hpb : p < 8 := by omega
          have v1 := wrapI (a := (p : Int)) (by omega) (by omega)
          have hmp : m2 = p + Q := by omega
          have hFe : H2 / 2 ^ p = F := by
            have h8 := H8.out
            have := HC2.out
            rw [← HH2.out, hmp, HFK.out, held_take (l := L) (c := c2) (t := sm [w0, w1, w2, w3, w4, w5, w6, w7, w8] 9 / 8) (S := U) (w := Q) (m := p) (by have := HNK.out; omega) HSL.out (by omega), show 8 * (sm [w0, w1, w2, w3, w4, w5, w6, w7, w8] 9 / 8) = sm [w0, w1, w2, w3, w4, w5, w6, w7, w8] 9 by omega]
          have hdi : (H2 : Int) / 2 ^ p = (F : Int) := by rw [← hFe]; push_cast; rfl
          have hFb : F < 4294967296 := by rw [← hFe]; exact Nat.lt_of_le_of_lt (Nat.div_le_self _ _) hH2b
          have v2 := wrapI (a := (F : Int)) (by omega) (by omega)
          obtain ⟨A, hA2⟩ : ∃ A : Nat, 2 ^ p = A := ⟨_, rfl⟩
          have hAb : A ≤ 256 := by rw [← hA2, show (256 : Nat) = 2 ^ 8 from rfl]; exact Nat.pow_le_pow_right (by decide) (by omega)
          have hA1 : 1 ≤ A := by rw [← hA2]; exact Nat.two_pow_pos p
          have hAi : (2 : Int) ^ p = (A : Int) := by rw [← hA2]; push_cast; rfl
          have v4 := wrapI (a := (A : Int)) (by omega) (by omega)
          have v5 := wrapI (a := (A : Int) - 1) (by omega) (by omega)
          obtain ⟨G, hGe⟩ : ∃ G, nb (L.take c2) % 2 ^ p = G := ⟨_, rfl⟩
          have hand : bits .and .i64 (H2 : Int) ((A : Int) - 1) = (G : Int) := by
            rw [← hGe]
            rw [i64_mask p (by omega) (by omega) (m := (A : Int) - 1) (by rw [hA2]; omega) (by omega), ← HH2.out, ← mod_mod_low (V := nb (L.take c2)) (show p ≤ m2 by omega)]
            push_cast; rfl
          rw [hAi] at hdi
          have hcs2 := HCS.out.eqv HE.out
          have hzc2 := hcs2.cell k (fk_get f k hlt)
          rw [if_neg (Nat.lt_irrefl k)] at hzc2
          have hzf2 := hcs2.fz k (by rw [fk_length]; exact hlt)
          have HNX := Lib.hid (show RdAt [w0, w1, w2, w3, w4, w5, w6, w7, w8] L wC (b + 2) f (.string (st (L.drop c2))) (.int .i64 (G : Int)) (.int .i64 (p : Int)) (k + 1) (wr.setCell ⟨b + 2, k, none⟩ (.int .i64 (F : Int))) from
            ⟨c2, p, hpb, rfl, by rw [hGe], by rw [HN.out]; have := HC2.out; omega, rfl, by rw [← hset]; exact hcs2.set k (by rw [fk_length]; exact hlt) _, (HON.out.trans (Only.eqv HE.out)).trans (Only.setCell wr ⟨b + 2, k, none⟩ _)⟩)
          obtain ⟨T, hT⟩ : ∃ T, st (L.drop c2) = T := ⟨_, rfl⟩
          rw [hT] at HNX ⊢
          clear hA2 hGe hp hmp hFe hcs2 hset hT
          go_wp2
          go_roundw
          case rel => exact ⟨k + 1, by omega, by go_num, HNX.out⟩
          case measure => simp [intOf]; omega
    · have hlI : ¬ (k : Int) < 9 := by omega
      have hk9 : k = 9 := by omega
      subst hk9
      have hy := HY.out.only (c := b + 2) (by omega) HON.out
      have HYY := Lib.hid hy
      clear hy
      go_wp2_with (first | (refine wp_ldN (b := b + 2) HCS.out (fk_length f 9) rfl _ rfl rfl ?_) | (refine wp_stN (b := b + 1) HYY.out rfl (fk f 9) (fk_length f 9) (fk_one f 9) rfl _ _ rfl rfl rfl ?_))
      have HS2 := HYY.out.store (fk f 9) (fk_length f 9)
      refine cs_ret Tryd.results50 (v := .agg (fk f 9).toArray) (lvN HS2.r (fk_length f 9)) rfl rfl ?_
      exact ⟨rfl, (only_setCells (b + 1) (fk f 9) 0 wr).keeps (HON.out.keeps HK.out (by omega)) (by omega)⟩
end Go.Proofs.YtlghkdkaifcliaaDoor
