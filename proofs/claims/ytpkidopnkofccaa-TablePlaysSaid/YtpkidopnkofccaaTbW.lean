/-
  What the program's table answers: New, Lost and Clear. The memory that was there stays, but for the table's own.
-/
import Derived.Test.YtpkidopnkofccaaTbV
namespace Go.Proofs.Ytpkidopnkofccaa
open Go.RowKit Gf Fl
set_option maxRecDepth 100000
/-- Those of a row's first places that are not known. -/
def lostK (T : Tb) (row k : Nat) : List Int := ((List.range k).filter fun c => !T.Is (c * T.R + row)).map fun c : Nat => (c : Int)
theorem lostK_succ (T : Tb) (row k : Nat) : lostK T row (k + 1) = if T.Is (k * T.R + row) = true then lostK T row k else lostK T row k ++ [(k : Int)] := by
  unfold lostK
  rw [List.range_succ, List.filter_append]
  cases z : T.Is (k * T.R + row) <;> simp [z]
theorem lostK_le (T : Tb) (row k : Nat) : (lostK T row k).length ≤ k := by
  unfold lostK
  rw [List.length_map]
  have := List.length_filter_le (fun c => !T.Is (c * T.R + row)) (List.range k)
  rwa [List.length_range] at this
theorem once_kept {wr W : World} {X : Obj} {n : Nat} {L : Nat → Bool} (h : Once n (Eqv wr) (Eqv (wr.alloc X)) L W) : Keeps wr W := by
  cases h4 : L n
  · exact (Keeps.refl wr).eqv (h.1 h4)
  · exact ((Keeps.refl wr).alloc X).eqv (h.2 h4)
def tloRel2 (w : World) (T : Tb) (row : Nat) (v c : Value) (wr : World) : Prop := ∃ k : Nat, k ≤ 255 ∧ c = .int .i64 (k : Int) ∧ OwnE rowN wr w.heap.size v (lostK T row k) ∧ Keeps w wr
abbrev cl3 (y : UInt8) (i s : Bool) : List Value := [u8V y, .bool i, .bool s]
set_option maxHeartbeats 3200000 in
theorem tbrow_lost {S : Nat → Prop} {x rb : Nat} {T : Tb} {w : World} (h : PtIn S x rb T w) {row : Nat} (hrow : row < T.R) : Calls Try.prog 30 #[.pointer (some ⟨rb, row * 765, none⟩)] w fun e w' => (∃ v, e = .returned v ∧ OwnE rowN w' w.heap.size v (lostL T row)) ∧ Keeps w w' := by
  obtain ⟨hr1, hr2⟩ := h.ok.bd
  have HH := Lib.hid h
  have HE := Lib.hid (show lostK T row 255 = lostL T row from rfl)
  obtain ⟨R, hR⟩ : ∃ R, T.R = R := ⟨_, rfl⟩
  have HR := Lib.hid hR
  rw [hR] at hr1 hr2 hrow
  clear h hR
  go_enter Try.func30, Try.ntmps30
  go_wp2
  go_loopw [3, 8] (fun v c wr => tloRel2 w T row v c wr) (fun _ c _ => 255 - (intOf c).toNat)
  case atStart => exact ⟨0, by omega, rfl, OwnE.nil _ _, Keeps.refl w⟩
  case round =>
    obtain ⟨k, hk, rfl, hown, hkp⟩ := hrel
    have hle := lostK_le T row k
    have HO := Lib.hid hown
    have HK := Lib.hid hkp
    have HN := Lib.hid (lostK_succ T row k)
    rw [HR.out] at HN
    obtain ⟨LL, hLL⟩ : ∃ l, lostK T row k = l := ⟨_, rfl⟩
    rw [hLL] at hle HN HO
    obtain ⟨aV, cV, hv, -, -⟩ := HO.out.is
    obtain ⟨nV, hnV⟩ : ∃ n, LL.length = n := ⟨_, rfl⟩
    rw [hnV] at hv hle
    subst hv
    have HNV := Lib.hid hnV
    clear hnV hown hkp
    by_cases hlt : k < 255
    · have hkI : (k : Int) < 255 := by omega
      have hat := at_lt (R := R) (c := k) hrow hlt
      have HV := Lib.hid (fun (W : World) (e : Keeps wr W) => show W.cell? ⟨rb, row * 765 + k * 3, none⟩ = some (u8V (T.B (k * R + row))) by
        have := (HH.out.keeps (HK.out.trans e)).v (k * R + row) (by rw [HR.out]; exact hat); rwa [HR.out, cp_at hrow] at this)
      have HI := Lib.hid (fun (W : World) (e : Keeps wr W) => show W.cell? ⟨rb, row * 765 + k * 3 + 1, none⟩ = some (.bool (T.Is (k * R + row))) by
        have := (HH.out.keeps (HK.out.trans e)).i (k * R + row) (by rw [HR.out]; exact hat); rwa [HR.out, cp_at hrow] at this)
      have HS := Lib.hid (fun (W : World) (e : Keeps wr W) => show W.cell? ⟨rb, row * 765 + k * 3 + 2, none⟩ = some (.bool (T.St (k * R + row))) by
        have := (HH.out.keeps (HK.out.trans e)).s (k * R + row) (by rw [HR.out]; exact hat); rwa [HR.out, cp_at hrow] at this)
      obtain ⟨y, hy⟩ : ∃ y, T.B (k * R + row) = y := ⟨_, rfl⟩
      obtain ⟨z, hz⟩ : ∃ z, T.Is (k * R + row) = z := ⟨_, rfl⟩
      obtain ⟨u, hu⟩ : ∃ u, T.St (k * R + row) = u := ⟨_, rfl⟩
      rw [hy] at HV
      rw [hz] at HI HN
      rw [hu] at HS
      have wr3 := wrapI (a := (k : Int) + 1) (by omega) (by omega)
      obtain ⟨X, hX⟩ : ∃ X : Obj, X = .cells #[.int .u8 0, .bool false, .bool false] 71 := ⟨_, rfl⟩
      have HXX := Lib.hid hX
      clear hX hy hz hu hat
      go_wp2
      refine wp_draw_tail 6 (by kernel_rfl) [.int .i64 (k : Int), .pointer (some ⟨rb, row * 765, none⟩), .pointer (some ⟨rb, row * 765 + k * 3, none⟩), .agg #[.int .u8 (y.toNat : Int), .bool z, .bool u], .pointer (some ⟨wr.heap.size, 0, none⟩), .int .i64 (k : Int)]
        (Once 4 (Eqv wr) (Eqv (wr.alloc X))) rfl (by kernel_rfl) (by kernel_rfl) (fin := ?fin0) ?hfin0 (Once.start (Eqv.drew wr)) ?each0 ?hend0
      case hfin0 => simp [seqA, dstOf, Act.put]; rfl
      case each0 =>
        refine ⟨?_, ?_, ?_, ?_, ?_, ?_, trivial⟩
        all_goals intro L w5 h0 hd hs hw
        all_goals unfold Does
        all_goals try simp only [Nat.zero_add, Nat.reduceAdd] at h0
        rotate_left 4
        · have hA := hw.1 h0
          have hz := hA.size
          go_simp
          exact fun L' k => Once.done k (by rw [HXX.out]; exact hA.alloc _)
        all_goals have hke := once_kept hw
        all_goals have d0 := HV.out w5 hke
        all_goals have d1 := HI.out w5 hke
        all_goals have d2 := HS.out w5 hke
        all_goals go_simp
        all_goals exact fun L' k => hw.same (by decide) k
      case hend0 =>
      intro L w5 hL hw
      obtain ⟨w3, rfl, he⟩ := (hw.2 (hL 4 (by omega))).split
      clear hL hw
      rw [HXX.out, ← he.size]
      simp only [List.drop_succ_cons, List.drop_zero]
      have HO3 := Lib.hid (HO.out.eqv he)
      have HK3 := Lib.hid (HK.out.eqv he)
      clear he
      have hal : LL.length ≤ 100000000 := by have := HNV.out; omega
      have hbs : w.heap.size ≤ (w3.alloc (.cells #[.int .u8 (y.toNat : Int), .bool z, .bool u] 71)).heap.size := by have := Below.size HK3.out; rw [World.size_alloc]; omega
      cases z
      · go_wp2_with (at_builtin; refine wp_pushE (T := rowN) rfl _ _ rfl (k : Int) #[.int .i64 (k : Int)] rfl (w3.heap.size + 1) (by simp) (HO3.out.keeps ((Keeps.refl w3).alloc _)) rfl rfl hal hbs _ ?_; intro v5 w5 own5 grow5 at5; have HO5 := Lib.hid own5; have HK5 := Lib.hid (((HK3.out.alloc _).alloc (.cells #[.int .i64 (k : Int)] 3)).grown grow5 HO3.out.block); clear own5 grow5 at5)
        go_roundw
        case rel => exact ⟨k + 1, by omega, by go_num, by rw [HN.out]; exact HO5.out, HK5.out⟩
        case measure => simp [intOf]; omega
      · go_wp2
        go_roundw
        case rel => exact ⟨k + 1, by omega, by go_num, by rw [HN.out]; exact HO3.out.keeps ((Keeps.refl w3).alloc _), HK3.out.alloc _⟩
        case measure => simp [intOf]; omega
    · obtain rfl : k = 255 := by omega
      have hkI : ¬ ((255 : Int) < 255) := by omega
      clear hle
      go_wp2
      go_ret
      exact ⟨⟨_, rfl, by rw [← HE.out]; have := HO.out; rwa [← hLL] at this⟩, HK.out⟩
/-- Lost. -/
theorem tblost_nil (n : Int) (w : World) : Calls Try.prog 12 #[.pointer none, .int .i64 n] w fun e w' => e = .returned (.tuple #[.int .i64 0, .int .i64 2]) ∧ w = w' := by
  go_enter Try.func12, Try.ntmps12
  go_wp2
  go_ret2
  exact ⟨rfl, rfl⟩
theorem tblost_range {S : Nat → Prop} {x : Nat} {T : Tb} {w : World} (h : PtAt S x T w) {n : Int} (hn : ¬ (0 ≤ n ∧ n < (T.R : Int))) : Calls Try.prog 12 #[.pointer (some ⟨x, 0, none⟩), .int .i64 n] w fun e w' => e = .returned (.tuple #[.int .i64 0, .int .i64 15]) ∧ w = w' := by
  obtain ⟨rb, h⟩ := h
  have c0 := h.c.cell 0 rfl
  obtain ⟨R, hR⟩ : ∃ R, T.R = R := ⟨_, rfl⟩
  rw [hR] at hn c0
  clear h hR
  by_cases h1 : n < 0
  · clear hn
    go_enter Try.func12, Try.ntmps12
    go_wp2
    go_ret2
    exact ⟨rfl, rfl⟩
  · have h2 : (R : Int) ≤ n := by omega
    clear hn
    go_enter Try.func12, Try.ntmps12
    go_wp2
    go_ret2
    exact ⟨rfl, rfl⟩
theorem tblost_ok {S : Nat → Prop} {x : Nat} {T : Tb} {w : World} (h : PtAt S x T w) {n : Nat} (hn : n < T.R) : Calls Try.prog 12 #[.pointer (some ⟨x, 0, none⟩), .int .i64 (n : Int)] w fun e w' => e = .returned (.tuple #[.int .i64 (lostT T n : Int), .int .i64 0]) ∧ Keeps w w' := by
  obtain ⟨rb, h⟩ := h
  obtain ⟨hr1, hr2⟩ := h.ok.bd
  have HRL := Lib.hid (tbrow_lost h hn)
  have HE := Lib.hid (lostL_length T n)
  have c0 := h.c.cell 0 rfl
  obtain ⟨R, hR⟩ : ∃ R, T.R = R := ⟨_, rfl⟩
  rw [hR] at hn c0 hr1 hr2
  obtain ⟨LL, hLL⟩ : ∃ l, lostL T n = l := ⟨_, rfl⟩
  rw [hLL] at HRL HE
  obtain ⟨N, hN⟩ : ∃ m, lostT T n = m := ⟨_, rfl⟩
  rw [hN] at HE ⊢
  clear h hR hLL hN
  have h1 : ¬ ((n : Int) < 0) := by omega
  have h2 : ¬ ((R : Int) ≤ (n : Int)) := by omega
  have h3 : (n : Int) < (R : Int) := by omega
  go_enter Try.func12, Try.ntmps12
  go_wp2_with (go_at_call 30; refine HRL.out.mono ?_; rintro _ w6 ⟨⟨v, rfl, own⟩, k6⟩; obtain ⟨aV, cV, rfl, -, -⟩ := own.is; rw [HE.out]; clear own)
  go_ret2
  exact ⟨rfl, k6⟩
/-- Rows of which no byte is known. -/
def z3 : List Value := [.int .u8 0, .bool false, .bool false]
def z765 : Value := .agg (List.replicate 255 z3).flatten.toArray
theorem z765_cells : z765.cells.toList = (List.replicate 255 z3).flatten := rfl
def rwT : RowT Unit where
  E := 73
  S := 59
  sz := 765
  bs := 765
  z := z765
  enc := fun _ => (List.replicate 255 z3).flatten
  und := Try.underlying59
  info := by kernel_rfl
  zs := by kernel_rfl
  pos := by decide
  small := by decide
  len := fun _ => by kernel_rfl
  one := fun _ u hu => by
    obtain ⟨l, hl, hu⟩ := List.mem_flatten.1 hu
    rw [(List.mem_replicate.1 hl).2] at hu
    unfold z3 at hu
    rcases List.mem_cons.1 hu with rfl | hu
    · rfl
    · rcases List.mem_cons.1 hu with rfl | hu
      · rfl
      · rw [List.mem_singleton.1 hu]; rfl
theorem rep3 {β : Type} (m : List β) : ∀ (n i j : Nat), i < n → j < m.length → ((List.replicate n m).flatten)[i * m.length + j]? = m[j]?
  | 0, _, _, h, _ => by omega
  | n + 1, 0, j, _, hj => by
    rw [List.replicate_succ, List.flatten_cons, Nat.zero_mul, Nat.zero_add, List.getElem?_append_left hj]
  | n + 1, i + 1, j, h, hj => by
    rw [List.replicate_succ, List.flatten_cons, List.getElem?_append_right (by rw [Nat.add_mul]; omega), show (i + 1) * m.length + j - m.length = i * m.length + j by rw [Nat.add_mul]; omega]
    exact rep3 m n i j (by omega) hj
/-- The cells of so many rows of which nothing is known. -/
def rz (R : Nat) : List Value := rwT.cells (List.replicate R ())
theorem rz_length (R : Nat) : (rz R).length = R * 765 := by
  unfold rz
  rw [RowT.cells_length, List.length_replicate]; rfl
theorem rz_get {R n j : Nat} (hR : 0 < R) (hn : n < 255 * R) (hj : j < 3) : (rz R)[cp R n + j]? = z3[j]? := by
  obtain ⟨h1, h2, _⟩ := at_eq hR hn
  have e1 : cp R n + j = n % R * rwT.sz + (n / R * 3 + j) := by unfold cp; show _ = n % R * 765 + _; omega
  unfold rz
  rw [e1, RowT.cells_get rwT _ (n % R) (by rw [List.length_replicate]; exact h2) _ (by show _ < 765; omega)]
  exact rep3 z3 255 (n / R) j h1 hj
theorem rz_get0 {R n : Nat} (hR : 0 < R) (hn : n < 255 * R) : (rz R)[cp R n]? = some (.int .u8 0) := by
  have := rz_get (j := 0) hR hn (by omega)
  rw [Nat.add_zero] at this
  rw [this]; rfl
theorem rz_get1 {R n : Nat} (hR : 0 < R) (hn : n < 255 * R) : (rz R)[cp R n + 1]? = some (.bool false) := by rw [rz_get (j := 1) hR hn (by omega)]; rfl
theorem rz_get2 {R n : Nat} (hR : 0 < R) (hn : n < 255 * R) : (rz R)[cp R n + 2]? = some (.bool false) := by rw [rz_get (j := 2) hR hn (by omega)]; rfl
structure Zr (rb R : Nat) (W : World) : Prop where
  old : rb < W.heap.size
  cell : ∀ k v, (rz R)[k]? = some v → W.cell? ⟨rb, k, none⟩ = some v
  free : ∀ k, k < R * 765 → W.frozen? ⟨rb, k, none⟩ = false
theorem Zr.block {rb R : Nat} {W W' : World} (h : Zr rb R W) (e : W'.heap[rb]? = W.heap[rb]?) (hs : W.heap.size ≤ W'.heap.size) : Zr rb R W' :=
  ⟨Nat.lt_of_lt_of_le h.old hs, fun k v hv => (World.cell?_of_block (w := W) (a := ⟨rb, k, none⟩) e).trans (h.cell k v hv), fun k hk => (World.frozen?_of_block (w := W) (a := ⟨rb, k, none⟩) e).trans (h.free k hk)⟩
theorem Zr.keeps {rb R : Nat} {W W' : World} (h : Zr rb R W) (k : Keeps W W') : Zr rb R W' := h.block (Below.block k rb h.old) (Below.size k)
theorem Zr.made (W : World) (R : Nat) : Zr W.heap.size R (W.alloc (.cells (madeCells z765.cells (R * 765)) 73)) := by
  refine ⟨by simp, fun k v hv => ?_, fun k _ => World.frozen?_alloc_new _ _ _ _⟩
  rw [World.cell?_alloc_new]
  have h1 := made_toList rwT () z765_cells R
  have h2 : (madeCells z765.cells (R * 765)).toList[k]? = some v := by
    rw [show (madeCells z765.cells (R * 765)).toList = rz R from h1]; exact hv
  rwa [Array.getElem?_toList] at h2
theorem PtIn.zero {S : Nat → Prop} {x rb R : Nat} {W : World} (hr : okR R) (hc : CsAt x [.slice (some ⟨rb, 0, none⟩) R R] W) (hz : Zr rb R W) (hm : S x ∧ S rb) (hd : x ≠ rb) (ho : ∀ k, S k → k < W.heap.size) : PtIn S x rb (tb0 R) W := by
  have hR : 0 < R := by unfold okR at hr; omega
  have g0 : ∀ n, n < 255 * R → W.cell? ⟨rb, cp R n, none⟩ = some (.int .u8 0) := fun n hn => hz.cell _ _ (rz_get0 hR hn)
  have g1 : ∀ n, n < 255 * R → W.cell? ⟨rb, cp R n + 1, none⟩ = some (.bool false) := fun n hn => hz.cell _ _ (rz_get1 hR hn)
  have g2 : ∀ n, n < 255 * R → W.cell? ⟨rb, cp R n + 2, none⟩ = some (.bool false) := fun n hn => hz.cell _ _ (rz_get2 hR hn)
  exact { ok := tb0_ok hr, c := hc, v := g0, i := g1, s := g2, f := hz.free, m := hm, d := hd, o := ho }
theorem clear_rows {b R : Nat} {w : World} (hR : 0 < R) (hc : ∀ j, j < R * 765 → (w.cell? ⟨b, j, none⟩).isSome = true) (hf : ∀ j, j < R * 765 → w.frozen? ⟨b, j, none⟩ = false) (ty : TypeId) :
    (Builtin.clear_ #[59] ty #[.slice (some ⟨b, 0, none⟩) R R]).run Try.prog w = .ok (.tuple #[]) (w.setCells b 0 (rz R)) := by
  have hv : (zeroValue 73).run Try.prog w = .ok z765 w := by
    obtain ⟨i0, hi, hz0, -, -⟩ := info_parts rwT.info
    have hi2 : Try.prog.info? 73 = some i0 := hi
    have hz2 : i0.zero = some z765 := hz0
    simp [zeroValue, typeInfo, hi2, hz2]
  have hzs : z765.cells.size = 765 := rwT.zs
  have hzc : (Builtin.zeroCells z765.cells R).toList = rz R := by
    have h1 : (madeCells z765.cells (R * 765)).toList = rz R := made_toList rwT () z765_cells R
    rw [← h1]
    unfold Builtin.zeroCells madeCells
    rw [hzs]
  have hst := run_storeCells_cells (P := Try.prog) b 0 (rz R) 0 w (by rw [rz_length]; simpa using hc) (by rw [rz_length]; simpa using hf) (RowT.cells_one' rwT _)
  simp only [Nat.add_zero] at hst
  obtain ⟨m, rfl⟩ : ∃ m, R = m + 1 := ⟨R - 1, by omega⟩
  simp [Builtin.clear_, run_underlying Try.underlying59, hv, hzc, hst]
/-- Clear. -/
theorem tbclear_nil (w : World) : Calls Try.prog 16 #[.pointer none] w fun e w' => e = .returned (.tuple #[]) ∧ w = w' := by
  go_enter Try.func16, Try.ntmps16
  go_wp2
  refine bodyPost_ret (results_none rfl _ _ _) rfl ?_
  exact ⟨rfl, rfl⟩
theorem tbclear_any {S : Nat → Prop} {x : Nat} {T : Tb} {w : World} (h : PtAt S x T w) : Calls Try.prog 16 #[.pointer (some ⟨x, 0, none⟩)] w fun e w' => e = .returned (.tuple #[]) ∧ PtAt S x (tb0 T.R) w' ∧ Foot S w w' := by
  obtain ⟨rb, h⟩ := h
  obtain ⟨hr1, hr2⟩ := h.ok.bd
  have c0 := h.c.cell 0 rfl
  have hbs : ∀ j, j < T.R * 765 → (w.cell? ⟨rb, j, none⟩).isSome = true := fun j hj => by
    have hrow : j / 765 < T.R := Nat.div_lt_of_lt_mul (by rw [Nat.mul_comm]; exact hj)
    have hcol : j % 765 / 3 < 255 := by omega
    have hpl := at_lt hrow hcol
    have hcp := cp_at (R := T.R) (c := j % 765 / 3) hrow
    have g0 := h.v _ hpl
    have g1 := h.i _ hpl
    have g2 := h.s _ hpl
    rw [hcp] at g0 g1 g2
    rcases (show j % 3 = 0 ∨ j % 3 = 1 ∨ j % 3 = 2 by omega) with e | e | e
    · rw [show j = j / 765 * 765 + j % 765 / 3 * 3 by omega, g0]; rfl
    · rw [show j = j / 765 * 765 + j % 765 / 3 * 3 + 1 by omega, g1]; rfl
    · rw [show j = j / 765 * 765 + j % 765 / 3 * 3 + 2 by omega, g2]; rfl
  have hcl := clear_rows (b := rb) (R := T.R) (w := w) (by omega) hbs h.f
  have HZ := Lib.hid (show PtAt S x (tb0 T.R) (w.setCells rb 0 (rz T.R)) from by
    have ho := only_setCells rb (rz T.R) 0 w
    have ht : w.there rb 0 (rz T.R).length := fun j hj => by
      rw [rz_length] at hj
      rw [Nat.zero_add]
      exact ⟨hbs j hj, h.f j hj⟩
    refine ⟨rb, PtIn.zero h.ok.r (h.c.only h.d ho) ⟨Nat.lt_of_lt_of_le (h.o rb h.m.2) ho.size, fun k v hv => ?_, fun k hk => ?_⟩ h.m h.d fun k hk => Nat.lt_of_lt_of_le (h.o k hk) ho.size⟩
    · have := World.rangeAt_setCells_same w rb 0 (rz T.R) ht k v hv
      rwa [Nat.zero_add] at this
    · rw [World.frozen?_setCells]; exact h.f k hk)
  have HF := Lib.hid (show Foot S w (w.setCells rb 0 (rz T.R)) from Foot.setCells h.m.2)
  obtain ⟨L, hL⟩ : ∃ L, rz T.R = L := ⟨_, rfl⟩
  rw [hL] at hcl HZ HF
  obtain ⟨R, hR⟩ : ∃ R, T.R = R := ⟨_, rfl⟩
  rw [hR] at hcl HZ c0 ⊢
  clear h hbs hL hR
  go_enter Try.func16, Try.ntmps16
  go_wp2
  go_end0
  exact ⟨rfl, HZ.out, HF.out⟩
/-- slices.Index and Contains of ints. -/
theorem tbindex_any {a : Option Addr} {len cap : Nat} {l : List Int} {v : Int} {w : World} (h : IsE rowN w a len l) (hl : len ≤ 1000) : Calls Try.prog 40 #[.slice a len cap, .int .i64 v] w fun e w' => (∃ n : Int, e = .returned (.int .i64 n) ∧ (0 ≤ n ↔ v ∈ l)) ∧ w = w' := by
  obtain ⟨N, hN⟩ : ∃ N, l.length = N := ⟨_, rfl⟩
  have hll : len = N := by rw [← hN]; exact h.1
  subst hll
  have HN := Lib.hid hN
  have HH := Lib.hid h
  clear h hN
  go_enter Try.func40, Try.ntmps40
  go_wp2
  go_loop [8] (fun i => ∃ k : Nat, k ≤ len ∧ i = .int .i64 (k : Int) ∧ Hid (v ∉ l.take k)) (fun i => len - (intOf i).toNat)
  case atStart => exact ⟨0, by omega, rfl, Lib.hid (by simp)⟩
  case round =>
    obtain ⟨k, hk, rfl, hno⟩ := hrel
    by_cases hlt : k < len
    · have hkl : k < l.length := by rw [HN.out]; exact hlt
      obtain ⟨b, off, rfl, hb, hc⟩ := HH.out.get hkl
      have hs : w.cell? ⟨b, off + k, none⟩ = some (.int .i64 l[k]) := by have := hc 0 _ rfl; simpa [rowN] using this
      have HT := Lib.hid (show l.take (k + 1) = l.take k ++ [l[k]] from List.take_succ_eq_append_getElem hkl)
      have HM := Lib.hid (List.getElem_mem hkl)
      obtain ⟨y, hy⟩ : ∃ y, l[k] = y := ⟨_, rfl⟩
      rw [hy] at hs HT HM
      have hkI : (k : Int) < (len : Int) := by omega
      have wr1 := wrapI (a := (k : Int) + 1) (by omega) (by omega)
      clear hc hy hkl
      by_cases he : v = y
      · subst he
        go_wp2
        go_ret
        exact ⟨⟨_, rfl, ⟨fun _ => HM.out, fun _ => by omega⟩⟩, rfl⟩
      · have hb : (v == y) = false := by rw [beq_eq_false_iff_ne]; exact he
        have HE := Lib.hid he
        clear he
        go_wp2
        go_round
        case rel => exact ⟨k + 1, by omega, by go_num, Lib.hid (by rw [HT.out, List.mem_append, not_or]; exact ⟨hno.out, by rw [List.mem_singleton]; exact HE.out⟩)⟩
        case measure => simp [intOf]; omega
    · obtain rfl : k = len := by omega
      have hkI : ¬ ((k : Int) < (k : Int)) := by omega
      have HE := Lib.hid (show v ∉ l by have := hno.out; rwa [List.take_of_length_le (by rw [HN.out]; omega)] at this)
      go_wp2
      go_ret
      exact ⟨⟨_, rfl, ⟨fun x => by omega, fun x => absurd x HE.out⟩⟩, rfl⟩
theorem tbcontains_any {a : Option Addr} {len cap : Nat} {l : List Int} {v : Int} {w : World} (h : IsE rowN w a len l) (hl : len ≤ 1000) (b : Bool) (hb : b = decide (v ∈ l)) : Calls Try.prog 23 #[.slice a len cap, .int .i64 v] w fun e w' => e = .returned (.bool b) ∧ w = w' := by
  have HI := Lib.hid (tbindex_any (cap := cap) (v := v) h hl)
  have HB := Lib.hid hb
  clear h hl hb
  go_enter Try.func23, Try.ntmps23
  go_wp2_with (go_at_call 40; refine HI.out.mono ?_; rintro _ w6 ⟨⟨n, rfl, hn⟩, rfl⟩; have HNN := Lib.hid hn; clear hn)
  go_ret
  refine ⟨?_, rfl⟩
  rw [HB.out, ← decide_eq_decide.2 HNN.out]
  rfl
/-- New. -/
theorem okR_mem (r : Int) : r ∈ [(256 : Int), 512, 768, 1024] ↔ okR r := by unfold okR; simp
theorem tbnew_no {r : Int} (h : ¬ okR r) (w : World) : Calls Try.prog 5 #[.int .i64 r] w fun e w' => e = .returned (.tuple #[.pointer none, .int .i64 23]) ∧ Keeps w w' := by
  have HC := Lib.hid (fun (W : World) (a : Option Addr) (hI : IsE rowN W a 4 [256, 512, 768, 1024]) => tbcontains_any (cap := 4) hI (by omega) false (by rw [eq_comm, decide_eq_false_iff_not, okR_mem]; exact h))
  have HCW := Lib.hid (HC.out (w.alloc (.cells #[.int .i64 256, .int .i64 512, .int .i64 768, .int .i64 1024] 56)) (some ⟨w.heap.size, 0, none⟩) (IsE.lit w [256, 512, 768, 1024] #[.int .i64 256, .int .i64 512, .int .i64 768, .int .i64 1024] 56 rfl rfl))
  clear h HC
  go_enter Try.func5, Try.ntmps5
  go_wp2_with (go_at_call 23; refine HCW.out.mono ?_; rintro _ w6 ⟨rfl, rfl⟩)
  go_ret2
  exact ⟨rfl, (Keeps.refl w).alloc _⟩
theorem tbnew_ok {r : Nat} (h : okR (r : Int)) (w : World) : Calls Try.prog 5 #[.int .i64 (r : Int)] w fun e w' => ∃ x rb, e = .returned (.tuple #[.pointer (some ⟨x, 0, none⟩), .int .i64 0]) ∧ PtAt (fun k => k = x ∨ k = rb) x (tb0 r) w' ∧ Keeps w w' ∧ w.heap.size ≤ x ∧ w.heap.size ≤ rb := by
  have hr : 256 ≤ r ∧ r ≤ 1024 := by unfold okR at h; omega
  obtain ⟨hr1, hr2⟩ := hr
  have HC := Lib.hid (fun (W : World) (a : Option Addr) (hI : IsE rowN W a 4 [256, 512, 768, 1024]) => tbcontains_any (cap := 4) (v := (r : Int)) hI (by omega) true (by rw [eq_comm, decide_eq_true_iff, okR_mem]; exact h))
  have hmk := fun W => show (Instr.makeSlice 59 (.int .i64 (r : Int)) (.int .i64 (r : Int))).run Try.prog W = .ok (.slice (some ⟨W.heap.size, 0, none⟩) r r) (W.alloc (.cells (madeCells z765.cells (r * 765)) 73)) from makeE rwT r (by omega) W
  have HZ := Lib.hid (fun W => Zr.made W r)
  obtain ⟨M, hM⟩ : ∃ M, madeCells z765.cells (r * 765) = M := ⟨_, rfl⟩
  rw [hM] at hmk HZ
  have HOK := Lib.hid h
  have HCW := Lib.hid (HC.out (w.alloc (.cells #[.int .i64 256, .int .i64 512, .int .i64 768, .int .i64 1024] 56)) (some ⟨w.heap.size, 0, none⟩) (IsE.lit w [256, 512, 768, 1024] #[.int .i64 256, .int .i64 512, .int .i64 768, .int .i64 1024] 56 rfl rfl))
  clear h hM HC
  go_enter Try.func5, Try.ntmps5
  go_wp2_with (go_at_call 23; refine HCW.out.mono ?_; rintro _ w6 ⟨rfl, rfl⟩)
  go_ret2
  obtain ⟨wA, hA⟩ : ∃ wA, w.alloc (.cells #[.int .i64 256, .int .i64 512, .int .i64 768, .int .i64 1024] 56) = wA := ⟨_, rfl⟩
  have hsA : wA.heap.size = w.heap.size + 1 := by rw [← hA, World.size_alloc]
  have hkA : Keeps w wA := by rw [← hA]; exact (Keeps.refl w).alloc _
  obtain ⟨wB, hB⟩ : ∃ wB, wA.alloc (.cells M 73) = wB := ⟨_, rfl⟩
  have hsB : wB.heap.size = w.heap.size + 1 + 1 := by rw [← hB, World.size_alloc, hsA]
  have hkB : Keeps w wB := by rw [← hB]; exact hkA.alloc _
  have hzB : Zr (w.heap.size + 1) r wB := by have := HZ.out wA; rwa [hB, hsA] at this
  refine ⟨w.heap.size + 1 + 1, w.heap.size + 1, rfl, ⟨w.heap.size + 1, ?_⟩, ?_, by omega, by omega⟩
  · rw [hA, hB]
    refine PtIn.zero HOK.out ?_ (hzB.keeps ((Keeps.refl wB).alloc _)) ⟨.inl rfl, .inr rfl⟩ (by omega) fun k hk => by rw [World.size_alloc, hsB]; omega
    have := CsAt.made wB #[.slice (some ⟨w.heap.size + 1, 0, none⟩) r r] 61 (by simp)
    rwa [hsB] at this
  · rw [hA, hB]; exact hkB.alloc _
end Go.Proofs.Ytpkidopnkofccaa
