/-
  For any body and bodies PackerSum returns true: of sections that end with a packet's end what follows is packed as by itself; nothing that was there is changed. No condition.
-/
import Derived.Test.YtaabfkffemnidaaRows
import Derived.Test.YtaabfkffemnidaaPrLaw
namespace Go.Proofs.Ytaabfkffemnidaa.packerSum
open Go.ChangeShapes Go.WideShapes Go.ChangeAt Go.RowKit Gf Pk Pr
set_option maxRecDepth 100000
open Go.ChangeMaps (open_string shut_string)
set_option linter.unusedVariables false
/-- The sections of bodies. -/
def secsL (L : List (List UInt8)) : List (List UInt8) := L.map fun s => mdB (st s)
theorem secsL_length (L : List (List UInt8)) : (secsL L).length = L.length := List.length_map ..
theorem isN {α : Type} {T : RowT α} {w : World} {base : Nat} {v : Value} {l : List α} (h : OwnE T w base v l) {n : Nat} (hn : l.length = n) : ∃ a cap, v = .slice a n cap ∧ IsE T w a n l := by
  obtain ⟨a, cap, e, hi, _⟩ := h.is
  subst hn
  exact ⟨a, cap, e, hi⟩
theorem secs_next {L : List (List UInt8)} {k : Nat} (h : k < L.length) : secsL (L.take (k + 1)) = secsL (L.take k) ++ [mdB (st L[k])] := by
  unfold secsL; rw [List.take_add_one, List.getElem?_eq_getElem h, List.map_append]; rfl
theorem catNone15 (a : Option Addr) (len cap : Nat) (hlc : len ≤ cap) (ax : Option Addr) (c : Nat) (ty : TypeId) (w : World) : (Builtin.append_ #[22, 22] ty #[.slice a len cap, .slice ax 0 c]).run Try.prog w = .ok (.slice a len cap) w := by
  have hst : ∀ (p : Addr) (w : World), (storeCells p []).run Try.prog w = .ok () w := fun _ _ => rfl
  obtain ⟨i0, hi, -, -, -⟩ := info_parts rowT.info
  have hi' : Try.prog.info? 9 = some i0 := hi
  cases ax <;> cases a <;> simp [hlc, hst, Builtin.append_, run_underlying Try.underlying22, Builtin.lenOf, Builtin.firstCells, sizeOf, typeInfo, hi', loadCells, loadCellsFrom]
theorem wp_cat15 {ops : Array Oper} {rest : List Oper} {o : Oper} {a : Act} {Q : Exit → Act → World → Prop} {wr : World} (hgd : o.guard = none) (s x : Operand)
    (ho : o.op = .call { callee := .builtin .append, args := #[s, x], argTypes := #[22, 22] }) {base : Nat} {v : Value} {l L : List (List UInt8)} (hown : OwnE rowT wr base v l)
    {ax : Option Addr} {n c : Nat} (hs : a.eval s = v) (hx : a.eval x = .slice ax n c) (hI : IsE rowT wr ax n L) (hl : l.length + L.length ≤ 1000000000) (hb : base ≤ wr.heap.size)
    (h : ∀ v' w', OwnE rowT w' base v' (l ++ L) → wr.grownBy w' v.ownBlock → wpList Try.prog ops Q rest (a.put o.dst v') w') :
    wpList Try.prog ops Q (o :: rest) a wr := by
  by_cases h0 : L = []
  · subst h0
    obtain rfl : n = 0 := hI.1
    obtain ⟨va, vc, hv, _, hlc⟩ := hown.is
    refine wpList_plain hgd fun _ hK => ?_
    have e : (execOp a.eval o).run Try.prog wr = .ok (.value v) wr := by
      rw [hv] at hs ⊢
      unfold execOp
      simp [ho, resolve, invoke, builtin, hs, hx, catNone15 _ _ _ hlc, Result.andThen]
    unfold Oper.wp
    rw [e, Oper.upon_value]
    exact hK _ _ (h _ _ (by rw [List.append_nil]; exact hown) (World.grownBy.refl _ _))
  · exact wp_catE (T := rowT) hgd s x ho hown hs hx hI h0 hl hb fun v' w' h1 h2 _ => h v' w' h1 h2
theorem paL_at (pid count : Int) (L : List (List UInt8)) (i : Nat) : (paL pid count L)[i]? = (bodies L)[i]?.map fun b => pkAt pid count b i := by
  unfold paL
  rw [List.getElem?_map, List.getElem?_zipIdx, Nat.zero_add]
  cases (bodies L)[i]? <;> rfl
theorem flat_le : ∀ (L : List (List UInt8)), (∀ s ∈ L, s.length ≤ 4096) → L.flatten.length ≤ 4096 * L.length
  | [], _ => Nat.le_refl _
  | x :: t, h => by
    have h1 := h x (List.mem_cons_self ..)
    have h2 := flat_le t fun s hs => h s (List.mem_cons_of_mem _ hs)
    rw [List.flatten_cons, List.length_append, List.length_cons]; omega
theorem sum_math {M : List UInt8} {K : List (List UInt8)} {t : Nat} (hM : M.length = 183 + 184 * t) (hc : ck15 M = 0) (hK : ∀ s ∈ K, ck15 s = 0) (hn : K.length ≤ 8) :
    ∃ (A B C : List Pkt) (n1 n2 n3 : Int), paO 9 0 [M] = (A, n1, 0) ∧ paO 9 n1 K = (B, n2, 0) ∧ paO 9 0 (M :: K) = (C, n3, 0) ∧ C.length = A.length + B.length ∧ C.length ≤ 1000 ∧ (∀ i, i < A.length → C[i]? = A[i]?) ∧ (∀ i, A.length ≤ i → C[i]? = B[i - A.length]?) := by
  have hb := bodies_first (L := K) hM
  have hall : ∀ s ∈ M :: K, ck15 s = 0 := fun s hs => (List.mem_cons.1 hs).elim (fun e => e ▸ hc) (hK s)
  have o0 : okS 9 0 := by decide
  have o1 : okS 9 ((0 + ((bodies [M]).length : Int)) % 16) := ⟨by decide, by omega, by omega⟩
  refine ⟨_, _, _, _, _, _, paO_ok o0 (fun s hs => by rw [List.mem_singleton.1 hs]; exact hc), paO_ok o1 hK, paO_ok o0 hall, ?_, ?_, fun i hi => ?_, fun i hi => ?_⟩
  · rw [paL_length, paL_length, paL_length, hb, List.length_append]
  · have h1 := (many_bound (L := M :: K) fun s hs => by have := ck15_good (hall s hs); omega).2
    have h2 := flat_le (M :: K) fun s hs => (ck15_good (hall s hs)).2
    rw [List.length_cons] at h1 h2
    rw [paL_length]; omega
  · rw [paL_length] at hi
    rw [paL_at, paL_at, hb, List.getElem?_append_left hi]
  · rw [paL_length] at hi ⊢
    rw [paL_at, paL_at, hb, List.getElem?_append_right hi]
    cases (bodies K)[i - (bodies [M]).length]? with
    | none => rfl
    | some b =>
      show some (pkAt 9 0 b i) = some (pkAt 9 _ b (i - (bodies [M]).length))
      unfold pkAt
      rw [show (0 + (i : Int)) % 16 = ((0 + ((bodies [M]).length : Int)) % 16 + ((i - (bodies [M]).length : Nat) : Int)) % 16 by omega]
def pzRel (w : World) (n : Nat) (i : Value) (wr : World) : Prop := ∃ j : Nat, j ≤ n ∧ i = .int .i64 (j : Int) ∧ Keeps w wr
def psRel (w : World) (L : List (List UInt8)) (v i : Value) (wr : World) : Prop := ∃ k : Nat, k ≤ L.length ∧ i = .int .i64 (k : Int) ∧ OwnE rowT wr w.heap.size v (secsL (L.take k)) ∧ (∀ x ∈ L.take k, x.length ≤ 1400) ∧ Keeps w wr
set_option maxHeartbeats 12800000 in
theorem walk (h : ByteArray) (hlim : h.size ≤ maxLen) (a : Option Addr) (len cap : Nat) (L : List (List UInt8)) (w : World) (hI0 : IsT w a len L ∧ len ≤ cap) :
    Calls Try.prog 5 #[.string h, .slice a len cap] w fun e w' => e = .returned (.bool true) ∧ Below w.heap.size w w' := by
  have HW := Lib.hid (fun W => awake15_any W W (Keeps.refl W))
  have HK := Lib.hid (Keeps.refl w)
  have HSU := Lib.hid (fun W => show Calls Try.prog 14 #[.string ⟨#[]⟩] W fun e w' => e = .returned (.int .u32 4294967295) ∧ W = w' from by
    have := rsum_any ⟨#[]⟩ W (by decide)
    rw [show ls ⟨#[]⟩ = [] from rfl, show Crc.mo ones [] = ones from rfl, ru_ones] at this
    exact this)
  obtain ⟨hI, -⟩ := hI0
  obtain ⟨N, hN⟩ : ∃ N, L.length = N := ⟨_, rfl⟩
  have hll : len = N := by rw [← hN]; exact hI.1
  subst hll
  have HI := Lib.hid hI
  have HN := Lib.hid hN
  clear hI hN
  by_cases h14 : 1400 < h.size
  · have hi : (1400 : Int) < (h.size : Int) := by omega
    go_enter Try.func5, Try.ntmps5
    go_wp2_with (first | (go_at_call 7; refine (HW.out _).mono ?_; rintro _ w9 ⟨rfl, k9⟩; have HK := Lib.hid (HK.out.trans k9); clear k9))
    go_ret
    exact ⟨rfl, HK.out⟩
  have hi : ¬ (1400 : Int) < (h.size : Int) := by omega
  by_cases h8 : 8 < len
  · have hi8 : (8 : Int) < (len : Int) := by omega
    go_enter Try.func5, Try.ntmps5
    go_wp2_with (first | (go_at_call 7; refine (HW.out _).mono ?_; rintro _ w9 ⟨rfl, k9⟩; have HK := Lib.hid (HK.out.trans k9); clear k9))
    go_ret
    exact ⟨rfl, HK.out⟩
  have hi8 : ¬ (8 : Int) < (len : Int) := by omega
  go_enter Try.func5, Try.ntmps5
  go_wp2
  go_loopw [5, 6] (fun v i wr => psRel w L v i wr) (fun _ i _ => len - (intOf i).toNat)
  case atStart => exact ⟨0, Nat.zero_le _, rfl, OwnE.nil _ _, by simp, Keeps.refl w⟩
  case round =>
    clear HK
    obtain ⟨k, hk, rfl, ho, hck, hkp⟩ := hrel
    rw [HN.out] at hk
    have HO := Lib.hid ho
    have HK := Lib.hid hkp
    have HC := Lib.hid hck
    clear ho hkp hck
    by_cases hlt : k < len
    · have hlI : (k : Int) < (len : Int) := by omega
      have hkL : k < L.length := by rw [HN.out]; exact hlt
      obtain ⟨b1, off1, rfl, hc1⟩ := (HI.out.keeps HK.out).get hkL
      rw [List.getD_eq_getElem?_getD, List.getElem?_eq_getElem hkL] at hc1
      simp only [Option.getD_some] at hc1
      have HX1 := Lib.hid (secs_next hkL)
      have HTK := Lib.hid (show L[k].length ≤ 1400 → ∀ x ∈ L.take (k + 1), x.length ≤ 1400 from fun h x hx => by
        rw [List.take_add_one, List.getElem?_eq_getElem hkL] at hx
        rcases List.mem_append.1 hx with y | y
        · exact HC.out x y
        · rw [List.mem_singleton.1 y]; exact h)
      obtain ⟨n, hn⟩ : ∃ n, L[k].length = n := ⟨_, rfl⟩
      rw [hn] at HTK
      obtain ⟨T, hT⟩ : ∃ T, st L[k] = T := ⟨_, rfl⟩
      have hTz : T.size = n := by rw [← hT, st_size]; exact hn
      rw [hT] at hc1 HX1
      have wr1 := wrapI (a := (k : Int) + 1) (by omega) (by omega)
      clear hn hT
      by_cases h14 : 1400 < n
      · have h14i : (1400 : Int) < (T.size : Int) := by omega
        clear hTz
        go_wp2_with (first | (go_at_call 7; refine (HW.out _).mono ?_; rintro _ w9 ⟨rfl, k9⟩; have HK := Lib.hid (HK.out.trans k9); clear k9))
        go_ret
        exact ⟨rfl, HK.out⟩
      · have h14i : ¬ (1400 : Int) < (T.size : Int) := by omega
        replace HTK := Lib.hid (HTK.out (by omega))
        have HMD := Lib.hid (fun W => prmade_any W T W (by omega) (Keeps.refl W))
        obtain ⟨M, hM⟩ : ∃ M, mdB T = M := ⟨_, rfl⟩
        rw [hM] at HMD HX1
        obtain ⟨Y, hY⟩ : ∃ Y, st M = Y := ⟨_, rfl⟩
        have HY := Lib.hid hY
        simp only [hY] at HMD
        have hl1 := secsL_length (L.take k)
        rw [List.length_take, HN.out, Nat.min_eq_left hk] at hl1
        have HL1 := Lib.hid hl1
        clear hM hY hl1 hTz
        go_wp2_with (first | (go_at_call 13; refine (HMD.out _).mono ?_; rintro _ w2 ⟨rfl, k2⟩; have HL2w := Lib.hid (HO.out.keeps k2); have HK2 := Lib.hid (HK.out.trans k2); clear k2) | (at_builtin; refine wp_pushE (T := rowT) rfl _ _ rfl M #[.string Y] (by rw [← HY.out]; rfl) w2.heap.size rfl HL2w.out rfl rfl (by rw [HL1.out]; omega) (Below.size HK2.out) 9 ?_; intro v4 w4 o4 g4 at4; have HO4 := Lib.hid o4; have HK4 := Lib.hid ((HK2.out.alloc (.cells #[.string Y] 9)).grown g4 HL2w.out.block); clear o4 g4 at4))
        go_roundw
        case rel => exact ⟨k + 1, by rw [HN.out]; omega, by go_num, by rw [HX1.out]; exact HO4.out, HTK.out, HK4.out⟩
        case measure => simp [intOf]; omega
    · have hlI : ¬ (k : Int) < (len : Int) := by omega
      have htk : L.take k = L := List.take_of_length_le (by rw [HN.out]; omega)
      rw [htk] at HO HC
      have hlk := secsL_length L
      rw [HN.out] at hlk
      obtain ⟨al, cl, rfl, hil, hcl⟩ := isC HO.out hlk
      have HIL := Lib.hid hil
      have HCPL := Lib.hid hcl
      clear hcl
      have HMD := Lib.hid (fun W => prmade_any W h W (by omega) (Keeps.refl W))
      have hZ0 := mdB_length h
      have hZ1 := mdB_ck (b := h) (by omega)
      obtain ⟨M, hM⟩ : ∃ M, mdB h = M := ⟨_, rfl⟩
      rw [hM] at HMD hZ0 hZ1
      obtain ⟨Y, hY⟩ : ∃ Y, st M = Y := ⟨_, rfl⟩
      have hYz : Y.size = h.size + 12 := by rw [← hY, st_size, hZ0]
      have HY := Lib.hid hY
      simp only [hY] at HMD
      have HM0 := Lib.hid hM
      clear hM hY htk hil
      by_cases q1 : Y.size < 183
      · have q1i : (Y.size : Int) < 183 := by omega
        have q2i : ¬ (183 : Int) < (Y.size : Int) := by omega
        clear hYz
        go_wp2_with (first | (go_at_call 13; refine (HMD.out _).mono ?_; rintro _ w2 ⟨rfl, k2⟩; have HK := Lib.hid (HK.out.trans k2); clear k2) | (go_at_call 7; refine (HW.out _).mono ?_; rintro _ w9 ⟨rfl, k9⟩; have HK := Lib.hid (HK.out.trans k9); clear k9))
        go_ret
        exact ⟨rfl, HK.out⟩
      have q1i : ¬ (Y.size : Int) < 183 := by omega
      have wr5 := wrapI (a := (Y.size : Int) - 183) (by omega) (by omega)
      by_cases q3 : (Y.size - 183) % 184 = 0
      · obtain ⟨t, ht⟩ : ∃ t, Y.size = 183 + 184 * t := ⟨(Y.size - 183) / 184, by omega⟩
        have hKc : ∀ s ∈ secsL L, ck15 s = 0 := fun s hs => by
          obtain ⟨x, hx, rfl⟩ := List.mem_map.1 hs
          have := HC.out x hx
          exact mdB_ck (by rw [st_size]; omega)
        obtain ⟨A, B, C, n1, n2, n3, e1, e2, e3, hlen, hcn, hA, hB⟩ := sum_math (M := M) (K := secsL L) (t := t) (by rw [hZ0]; omega) hZ1 hKc (by rw [hlk]; omega)
        have hls : ls Y = M := by rw [← HY.out, ls_st]
        have hmz : M.length ≤ 1000000 := by rw [hZ0]; omega
        have hkz : ∀ s ∈ secsL L, s.length ≤ 1000000 := fun s hs => by have := (ck15_good (hKc s hs)).2; omega
        have HP1 := Lib.hid (fun W (a : Option Addr) (len cap : Nat) (h : IsT W a len [ls Y]) (hlc : len ≤ cap) => prpack_any 9 0 (cap := cap) W h hlc (show 1 ≤ 1000 by decide) (fun s hs => by rw [List.mem_singleton.1 hs, hls]; exact hmz))
        have HP2 := Lib.hid (fun W (a : Option Addr) (len cap : Nat) (h : IsT W a len (secsL L)) (hlc : len ≤ cap) => prpack_any 9 n1 (cap := cap) W h hlc (by rw [hlk]; omega) hkz)
        have HP3 := Lib.hid (fun W (a : Option Addr) (len cap : Nat) (h : IsT W a len (M :: secsL L)) (hlc : len ≤ cap) => prpack_any 9 0 (cap := cap) W h hlc (by rw [List.length_cons, hlk]; omega) (fun s hs => (List.mem_cons.1 hs).elim (fun e => e ▸ hmz) (hkz s)))
        rw [← hls] at e1
        unfold PaPost at HP1 HP2 HP3
        rw [e1] at HP1
        rw [e2] at HP2
        rw [e3] at HP3
        obtain ⟨na, hna⟩ : ∃ n, A.length = n := ⟨_, rfl⟩
        obtain ⟨nb, hnb⟩ : ∃ n, B.length = n := ⟨_, rfl⟩
        obtain ⟨nc, hnc⟩ : ∃ n, C.length = n := ⟨_, rfl⟩
        simp only [hna] at HP1
        simp only [hnb] at HP2
        simp only [hnc] at HP3
        rw [hna, hnb, hnc] at hlen
        rw [hnc] at hcn
        have HKL := Lib.hid hlk
        have HMP := Lib.hid hls
        have HAL := Lib.hid hna
        have HBL := Lib.hid hnb
        have HCL := Lib.hid hnc
        have HA := Lib.hid hA
        have HB := Lib.hid hB
        have wr6 := wrapI (a := (nc : Int)) (by omega) (by omega)
        have hLC : (na : Int) + (nb : Int) = (nc : Int) := by omega
        have HLEN := Lib.hid hlen
        have hIW : ∀ W, Keeps wr W → IsT W al len (secsL L) := fun W k => (HIL.out.keeps k).texts
        have HIW := Lib.hid hIW
        clear hYz hZ0 hZ1 hKc e1 e2 e3 hls hmz hkz hna hnb hnc hlk hA hB hIW hlen
        have h1000 : len ≤ 1000 := by omega
        by_cases q2 : 183 < Y.size
        · have q2i : (183 : Int) < (Y.size : Int) := by omega
          have q4 : ((Y.size : Int) - 183).tmod 184 = 0 := by rw [Int.tmod_eq_emod_of_nonneg (by omega)]; omega
          have q5 : ((Y.size : Int) - 183) % 184 = 0 := by omega
          clear q3 ht q2
          go_wp2_with (first | (go_at_call 13; refine (HMD.out _).mono ?_; rintro _ w2 ⟨rfl, k2⟩; have HK2 := Lib.hid k2; clear k2) | (at_builtin; refine wp_pushE (T := rowT) rfl _ _ rfl M #[.string Y] (by rw [← HY.out]; rfl) w2.heap.size rfl (OwnE.nil _ w2.heap.size) rfl rfl (Nat.zero_le _) (Nat.le_refl _) 9 ?_; intro v8 w8 o8 g8 at8; have HO8 := Lib.hid o8; have HK8 := Lib.hid (((Keeps.refl w2).alloc (.cells #[.string Y] 9)).grown g8 (fun k e => by cases e)); clear o8 g8 at8) | (at_builtin; refine wp_cat15 rfl _ _ rfl HO8.out rfl rfl (HIL.out.keeps (HK2.out.trans HK8.out)) (by rw [HKL.out]; simp; omega) (Below.size HK8.out) ?_; intro v9 w9 o9 g9; obtain ⟨a9, c9, rfl, hi9, hc9⟩ := isC (l := M :: secsL L) (n := len + 1) o9 (by rw [List.length_cons, HKL.out]); have HI9 := Lib.hid hi9; have HC9 := Lib.hid hc9; clear hc9; have HK9 := Lib.hid (HK8.out.grown g9 HO8.out.block); clear o9 g9 hi9) | (go_at_call 8; refine (HP1.out _ _ _ _ (IsT.one w9 Y 9) (Nat.le_refl _)).mono ?_; rintro _ w11 ⟨a11, c11, rfl, hi11, hc11, k11⟩; have HI11 := Lib.hid hi11; have HK11 := Lib.hid (((Keeps.refl w9).alloc (.cells #[.string Y] 9)).trans k11); clear hi11 hc11 k11 HP1) | (go_at_call 8; refine (HP2.out _ _ _ _ (HIW.out _ (HK2.out.trans (HK9.out.trans HK11.out))) HCPL.out).mono ?_; rintro _ w12 ⟨a12, c12, rfl, hi12, hc12, k12⟩; have HI12 := Lib.hid hi12; have HK12 := Lib.hid k12; clear hi12 hc12 k12 HP2) | (go_at_call 8; refine (HP3.out _ _ _ _ ((HI9.out.keeps (HK11.out.trans HK12.out)).texts) HC9.out).mono ?_; rintro _ w13 ⟨a13, c13, rfl, hi13, hc13, k13⟩; have HI13 := Lib.hid hi13; have HK13 := Lib.hid k13; clear hi13 hc13 k13 HP3))
          have HKA := Lib.hid (HK.out.trans (HK2.out.trans (HK9.out.trans (HK11.out.trans (HK12.out.trans HK13.out)))))
          go_loopw [18] (fun i wr => pzRel w13 nc i wr) (fun i _ => nc - (intOf i).toNat)
          case atStart => exact ⟨0, Nat.zero_le _, rfl, Keeps.refl _⟩
          case round =>
            obtain ⟨j, hj, rfl, hkq⟩ := hrel
            have HKQ := Lib.hid hkq
            clear hkq
            by_cases hjC : j < nc
            · have hjI : (j : Int) < (nc : Int) := by omega
              have wr7 := wrapI (a := (j : Int) + 1) (by omega) (by omega)
              have hc0 : j < C.length := by rw [HCL.out]; exact hjC
              obtain ⟨bc, oc, rfl, hcc⟩ := pkt_read HI13.out hc0
              by_cases hja : j < na
              · have hjaI : (j : Int) < (na : Int) := by omega
                have hjaG : ¬ (na : Int) ≤ (j : Int) := by omega
                have ha0 : j < A.length := by rw [HAL.out]; exact hja
                have hE : C[j] = A[j] := by
                  have e := HA.out j ha0
                  rw [List.getElem?_eq_getElem hc0, List.getElem?_eq_getElem ha0] at e
                  exact Option.some.inj e
                obtain ⟨ba, oa, rfl, haa⟩ := pkt_read HI11.out ha0
                rw [hE] at hcc
                obtain ⟨⟨pid, sb, cq, bd, bl⟩, hP⟩ : ∃ P, A[j] = P := ⟨_, rfl⟩
                rw [hP] at hcc haa
                have HCC := Lib.hid hcc
                have HAA := Lib.hid haa
                clear hcc haa hP hE ha0 hc0
                go_wp2
                have hqq := fun W => neP ⟨pid, sb, cq, bd, bl⟩ ⟨pid, sb, cq, bd, bl⟩ W
                simp only [sameP_self, Bool.not_true] at hqq
                have heg : Try.prog.eqGuardType Try.prog.depth 35 = false := by kernel_rfl
                refine wp_draw (by kernel_rfl) [.int .i64 (j : Int), .slice (some ⟨ba, oa, none⟩) na c11, .int .i64 (na : Int), .bool true, .bool true, .slice (some ⟨bc, oc, none⟩) nc c13, .int .i64 (j : Int), .pointer (some ⟨bc, oc + j * 5, none⟩), pkV ⟨pid, sb, cq, bd, bl⟩, .slice (some ⟨ba, oa, none⟩) na c11, .int .i64 (j : Int), .pointer (some ⟨ba, oa + j * 5, none⟩), pkV ⟨pid, sb, cq, bd, bl⟩, .bool false, .bool false, .bool false, .int .i64 (j : Int), .slice (some ⟨ba, oa, none⟩) na c11, .int .i64 (na : Int), .bool false, .bool false, undef, undef, undef, undef, undef, undef, undef, undef, undef, undef, undef, undef, .bool false, .bool false]
                  (fun _ W => Keeps wr W) rfl (by kernel_rfl) (fin := ?fin0) ?hfin0 ((Keeps.refl _).eqv (Eqv.drew _)) ?each0 ?hend0
                case hfin0 => simp [seqA, dstOf, Act.put]; rfl
                case each0 =>
                  refine ⟨?_, ?_, ?_, ?_, ?_, ?_, ?_, ?_, ?_, ?_, ?_, ?_, ?_, ?_, ?_, ?_, ?_, ?_, ?_, ?_, ?_, ?_, ?_, ?_, ?_, ?_, ?_, ?_, ?_, ?_, ?_, ?_, ?_, ?_, ?_, trivial⟩
                  all_goals intro X w6 h0 hd hs hw
                  all_goals have bc0 : w6.cell? ⟨bc, oc + j * 5, none⟩ = some (.int .i64 pid) := HCC.out w6 (HKQ.out.trans hw) 0 _ rfl
                  all_goals have bc1 : w6.cell? ⟨bc, oc + j * 5 + 1, none⟩ = some (.bool sb) := HCC.out w6 (HKQ.out.trans hw) 1 _ rfl
                  all_goals have bc2 : w6.cell? ⟨bc, oc + j * 5 + 2, none⟩ = some (.int .i64 cq) := HCC.out w6 (HKQ.out.trans hw) 2 _ rfl
                  all_goals have bc3 : w6.cell? ⟨bc, oc + j * 5 + 3, none⟩ = some (.bool bd) := HCC.out w6 (HKQ.out.trans hw) 3 _ rfl
                  all_goals have bc4 : w6.cell? ⟨bc, oc + j * 5 + 4, none⟩ = some (.string bl) := HCC.out w6 (HKQ.out.trans hw) 4 _ rfl
                  all_goals have ba0 : w6.cell? ⟨ba, oa + j * 5, none⟩ = some (.int .i64 pid) := HAA.out w6 ((HK12.out.trans (HK13.out.trans HKQ.out)).trans hw) 0 _ rfl
                  all_goals have ba1 : w6.cell? ⟨ba, oa + j * 5 + 1, none⟩ = some (.bool sb) := HAA.out w6 ((HK12.out.trans (HK13.out.trans HKQ.out)).trans hw) 1 _ rfl
                  all_goals have ba2 : w6.cell? ⟨ba, oa + j * 5 + 2, none⟩ = some (.int .i64 cq) := HAA.out w6 ((HK12.out.trans (HK13.out.trans HKQ.out)).trans hw) 2 _ rfl
                  all_goals have ba3 : w6.cell? ⟨ba, oa + j * 5 + 3, none⟩ = some (.bool bd) := HAA.out w6 ((HK12.out.trans (HK13.out.trans HKQ.out)).trans hw) 3 _ rfl
                  all_goals have ba4 : w6.cell? ⟨ba, oa + j * 5 + 4, none⟩ = some (.string bl) := HAA.out w6 ((HK12.out.trans (HK13.out.trans HKQ.out)).trans hw) 4 _ rfl
                  all_goals first | rw [if_pos (by rfl)] | rw [if_neg (by decide)] | skip
                  all_goals try unfold Does
                  all_goals go_simp
                  all_goals first | exact fun L' k => hw | exact fun hh => absurd hh (by decide) | decide
                case hend0 =>
                intro X w6 hL hw
                have HKQ := Lib.hid (HKQ.out.trans hw)
                clear hL hw
                go_wp2
                go_roundw
                case rel => exact ⟨j + 1, by omega, by go_num, HKQ.out⟩
                case measure => simp [intOf]; omega
              · have hjaI : ¬ (j : Int) < (na : Int) := by omega
                have hjaG : (na : Int) ≤ (j : Int) := by omega
                obtain ⟨e, he⟩ : ∃ e, j - na = e := ⟨_, rfl⟩
                have hsub : (j : Int) - (na : Int) = (e : Int) := by omega
                have heB : (e : Int) < (nb : Int) := by have := HLEN.out; omega
                have wr8 := wrapI (a := (e : Int)) (by omega) (by omega)
                have hb0 : e < B.length := by rw [HBL.out]; have := HLEN.out; omega
                have hE : C[j] = B[e] := by
                  have z := HB.out j (by rw [HAL.out]; omega)
                  rw [HAL.out, he, List.getElem?_eq_getElem hc0, List.getElem?_eq_getElem hb0] at z
                  exact Option.some.inj z
                obtain ⟨bb, ob, rfl, hbb⟩ := pkt_read HI12.out hb0
                rw [hE] at hcc
                obtain ⟨⟨pid, sb, cq, bd, bl⟩, hP⟩ : ∃ P, B[e] = P := ⟨_, rfl⟩
                rw [hP] at hcc hbb
                have HCC := Lib.hid hcc
                have HBB := Lib.hid hbb
                clear hcc hbb hP hE hb0 hc0 he
                go_wp2
                have hqq := fun W => neP ⟨pid, sb, cq, bd, bl⟩ ⟨pid, sb, cq, bd, bl⟩ W
                simp only [sameP_self, Bool.not_true] at hqq
                have heg : Try.prog.eqGuardType Try.prog.depth 35 = false := by kernel_rfl
                refine wp_draw (by kernel_rfl) [.int .i64 (j : Int), .slice a11 na c11, .int .i64 (na : Int), .bool false, .bool false, undef, undef, undef, undef, undef, undef, undef, undef, undef, .bool false, .bool false, .int .i64 (j : Int), .slice a11 na c11, .int .i64 (na : Int), .bool true, .bool true, .slice (some ⟨bc, oc, none⟩) nc c13, .int .i64 (j : Int), .pointer (some ⟨bc, oc + j * 5, none⟩), pkV ⟨pid, sb, cq, bd, bl⟩, .slice (some ⟨bb, ob, none⟩) nb c12, .int .i64 (j : Int), .slice a11 na c11, .int .i64 (na : Int), .int .i64 (e : Int), .pointer (some ⟨bb, ob + e * 5, none⟩), pkV ⟨pid, sb, cq, bd, bl⟩, .bool false, .bool false, .bool false]
                  (fun _ W => Keeps wr W) rfl (by kernel_rfl) (fin := ?fin1) ?hfin1 ((Keeps.refl _).eqv (Eqv.drew _)) ?each1 ?hend1
                case hfin1 => simp [seqA, dstOf, Act.put]; rfl
                case each1 =>
                  refine ⟨?_, ?_, ?_, ?_, ?_, ?_, ?_, ?_, ?_, ?_, ?_, ?_, ?_, ?_, ?_, ?_, ?_, ?_, ?_, ?_, ?_, ?_, ?_, ?_, ?_, ?_, ?_, ?_, ?_, ?_, ?_, ?_, ?_, ?_, ?_, trivial⟩
                  all_goals intro X w6 h0 hd hs hw
                  all_goals have bc0 : w6.cell? ⟨bc, oc + j * 5, none⟩ = some (.int .i64 pid) := HCC.out w6 (HKQ.out.trans hw) 0 _ rfl
                  all_goals have bc1 : w6.cell? ⟨bc, oc + j * 5 + 1, none⟩ = some (.bool sb) := HCC.out w6 (HKQ.out.trans hw) 1 _ rfl
                  all_goals have bc2 : w6.cell? ⟨bc, oc + j * 5 + 2, none⟩ = some (.int .i64 cq) := HCC.out w6 (HKQ.out.trans hw) 2 _ rfl
                  all_goals have bc3 : w6.cell? ⟨bc, oc + j * 5 + 3, none⟩ = some (.bool bd) := HCC.out w6 (HKQ.out.trans hw) 3 _ rfl
                  all_goals have bc4 : w6.cell? ⟨bc, oc + j * 5 + 4, none⟩ = some (.string bl) := HCC.out w6 (HKQ.out.trans hw) 4 _ rfl
                  all_goals have bb0 : w6.cell? ⟨bb, ob + e * 5, none⟩ = some (.int .i64 pid) := HBB.out w6 ((HK13.out.trans HKQ.out).trans hw) 0 _ rfl
                  all_goals have bb1 : w6.cell? ⟨bb, ob + e * 5 + 1, none⟩ = some (.bool sb) := HBB.out w6 ((HK13.out.trans HKQ.out).trans hw) 1 _ rfl
                  all_goals have bb2 : w6.cell? ⟨bb, ob + e * 5 + 2, none⟩ = some (.int .i64 cq) := HBB.out w6 ((HK13.out.trans HKQ.out).trans hw) 2 _ rfl
                  all_goals have bb3 : w6.cell? ⟨bb, ob + e * 5 + 3, none⟩ = some (.bool bd) := HBB.out w6 ((HK13.out.trans HKQ.out).trans hw) 3 _ rfl
                  all_goals have bb4 : w6.cell? ⟨bb, ob + e * 5 + 4, none⟩ = some (.string bl) := HBB.out w6 ((HK13.out.trans HKQ.out).trans hw) 4 _ rfl
                  all_goals first | rw [if_pos (by rfl)] | rw [if_neg (by decide)] | skip
                  all_goals try unfold Does
                  all_goals go_simp
                  all_goals first | exact fun L' k => hw | exact fun hh => absurd hh (by decide) | decide
                case hend1 =>
                intro X w6 hL hw
                have HKQ := Lib.hid (HKQ.out.trans hw)
                clear hL hw
                go_wp2
                go_roundw
                case rel => exact ⟨j + 1, by omega, by go_num, HKQ.out⟩
                case measure => simp [intOf]; omega
            · have hjI : ¬ (j : Int) < (nc : Int) := by omega
              have HK := Lib.hid (HKA.out.trans HKQ.out)
              go_wp2_with (first | (go_at_call 14; refine (HSU.out _).mono ?_; rintro _ w12 ⟨rfl, rfl⟩) | (go_at_call 7; refine (HW.out _).mono ?_; rintro _ w9 ⟨rfl, k9⟩; have HK := Lib.hid (HK.out.trans k9); clear k9))
              go_ret
              exact ⟨rfl, HK.out⟩
        · have q2i : ¬ (183 : Int) < (Y.size : Int) := by omega
          clear q3 ht q2
          go_wp2_with (first | (go_at_call 13; refine (HMD.out _).mono ?_; rintro _ w2 ⟨rfl, k2⟩; have HK2 := Lib.hid k2; clear k2) | (at_builtin; refine wp_pushE (T := rowT) rfl _ _ rfl M #[.string Y] (by rw [← HY.out]; rfl) w2.heap.size rfl (OwnE.nil _ w2.heap.size) rfl rfl (Nat.zero_le _) (Nat.le_refl _) 9 ?_; intro v8 w8 o8 g8 at8; have HO8 := Lib.hid o8; have HK8 := Lib.hid (((Keeps.refl w2).alloc (.cells #[.string Y] 9)).grown g8 (fun k e => by cases e)); clear o8 g8 at8) | (at_builtin; refine wp_cat15 rfl _ _ rfl HO8.out rfl rfl (HIL.out.keeps (HK2.out.trans HK8.out)) (by rw [HKL.out]; simp; omega) (Below.size HK8.out) ?_; intro v9 w9 o9 g9; obtain ⟨a9, c9, rfl, hi9, hc9⟩ := isC (l := M :: secsL L) (n := len + 1) o9 (by rw [List.length_cons, HKL.out]); have HI9 := Lib.hid hi9; have HC9 := Lib.hid hc9; clear hc9; have HK9 := Lib.hid (HK8.out.grown g9 HO8.out.block); clear o9 g9 hi9) | (go_at_call 8; refine (HP1.out _ _ _ _ (IsT.one w9 Y 9) (Nat.le_refl _)).mono ?_; rintro _ w11 ⟨a11, c11, rfl, hi11, hc11, k11⟩; have HI11 := Lib.hid hi11; have HK11 := Lib.hid (((Keeps.refl w9).alloc (.cells #[.string Y] 9)).trans k11); clear hi11 hc11 k11 HP1) | (go_at_call 8; refine (HP2.out _ _ _ _ (HIW.out _ (HK2.out.trans (HK9.out.trans HK11.out))) HCPL.out).mono ?_; rintro _ w12 ⟨a12, c12, rfl, hi12, hc12, k12⟩; have HI12 := Lib.hid hi12; have HK12 := Lib.hid k12; clear hi12 hc12 k12 HP2) | (go_at_call 8; refine (HP3.out _ _ _ _ ((HI9.out.keeps (HK11.out.trans HK12.out)).texts) HC9.out).mono ?_; rintro _ w13 ⟨a13, c13, rfl, hi13, hc13, k13⟩; have HI13 := Lib.hid hi13; have HK13 := Lib.hid k13; clear hi13 hc13 k13 HP3))
          have HKA := Lib.hid (HK.out.trans (HK2.out.trans (HK9.out.trans (HK11.out.trans (HK12.out.trans HK13.out)))))
          go_loopw [18] (fun i wr => pzRel w13 nc i wr) (fun i _ => nc - (intOf i).toNat)
          case atStart => exact ⟨0, Nat.zero_le _, rfl, Keeps.refl _⟩
          case round =>
            obtain ⟨j, hj, rfl, hkq⟩ := hrel
            have HKQ := Lib.hid hkq
            clear hkq
            by_cases hjC : j < nc
            · have hjI : (j : Int) < (nc : Int) := by omega
              have wr7 := wrapI (a := (j : Int) + 1) (by omega) (by omega)
              have hc0 : j < C.length := by rw [HCL.out]; exact hjC
              obtain ⟨bc, oc, rfl, hcc⟩ := pkt_read HI13.out hc0
              by_cases hja : j < na
              · have hjaI : (j : Int) < (na : Int) := by omega
                have hjaG : ¬ (na : Int) ≤ (j : Int) := by omega
                have ha0 : j < A.length := by rw [HAL.out]; exact hja
                have hE : C[j] = A[j] := by
                  have e := HA.out j ha0
                  rw [List.getElem?_eq_getElem hc0, List.getElem?_eq_getElem ha0] at e
                  exact Option.some.inj e
                obtain ⟨ba, oa, rfl, haa⟩ := pkt_read HI11.out ha0
                rw [hE] at hcc
                obtain ⟨⟨pid, sb, cq, bd, bl⟩, hP⟩ : ∃ P, A[j] = P := ⟨_, rfl⟩
                rw [hP] at hcc haa
                have HCC := Lib.hid hcc
                have HAA := Lib.hid haa
                clear hcc haa hP hE ha0 hc0
                go_wp2
                have hqq := fun W => neP ⟨pid, sb, cq, bd, bl⟩ ⟨pid, sb, cq, bd, bl⟩ W
                simp only [sameP_self, Bool.not_true] at hqq
                have heg : Try.prog.eqGuardType Try.prog.depth 35 = false := by kernel_rfl
                refine wp_draw (by kernel_rfl) [.int .i64 (j : Int), .slice (some ⟨ba, oa, none⟩) na c11, .int .i64 (na : Int), .bool true, .bool true, .slice (some ⟨bc, oc, none⟩) nc c13, .int .i64 (j : Int), .pointer (some ⟨bc, oc + j * 5, none⟩), pkV ⟨pid, sb, cq, bd, bl⟩, .slice (some ⟨ba, oa, none⟩) na c11, .int .i64 (j : Int), .pointer (some ⟨ba, oa + j * 5, none⟩), pkV ⟨pid, sb, cq, bd, bl⟩, .bool false, .bool false, .bool false, .int .i64 (j : Int), .slice (some ⟨ba, oa, none⟩) na c11, .int .i64 (na : Int), .bool false, .bool false, undef, undef, undef, undef, undef, undef, undef, undef, undef, undef, undef, undef, .bool false, .bool false]
                  (fun _ W => Keeps wr W) rfl (by kernel_rfl) (fin := ?fin2) ?hfin2 ((Keeps.refl _).eqv (Eqv.drew _)) ?each2 ?hend2
                case hfin2 => simp [seqA, dstOf, Act.put]; rfl
                case each2 =>
                  refine ⟨?_, ?_, ?_, ?_, ?_, ?_, ?_, ?_, ?_, ?_, ?_, ?_, ?_, ?_, ?_, ?_, ?_, ?_, ?_, ?_, ?_, ?_, ?_, ?_, ?_, ?_, ?_, ?_, ?_, ?_, ?_, ?_, ?_, ?_, ?_, trivial⟩
                  all_goals intro X w6 h0 hd hs hw
                  all_goals have bc0 : w6.cell? ⟨bc, oc + j * 5, none⟩ = some (.int .i64 pid) := HCC.out w6 (HKQ.out.trans hw) 0 _ rfl
                  all_goals have bc1 : w6.cell? ⟨bc, oc + j * 5 + 1, none⟩ = some (.bool sb) := HCC.out w6 (HKQ.out.trans hw) 1 _ rfl
                  all_goals have bc2 : w6.cell? ⟨bc, oc + j * 5 + 2, none⟩ = some (.int .i64 cq) := HCC.out w6 (HKQ.out.trans hw) 2 _ rfl
                  all_goals have bc3 : w6.cell? ⟨bc, oc + j * 5 + 3, none⟩ = some (.bool bd) := HCC.out w6 (HKQ.out.trans hw) 3 _ rfl
                  all_goals have bc4 : w6.cell? ⟨bc, oc + j * 5 + 4, none⟩ = some (.string bl) := HCC.out w6 (HKQ.out.trans hw) 4 _ rfl
                  all_goals have ba0 : w6.cell? ⟨ba, oa + j * 5, none⟩ = some (.int .i64 pid) := HAA.out w6 ((HK12.out.trans (HK13.out.trans HKQ.out)).trans hw) 0 _ rfl
                  all_goals have ba1 : w6.cell? ⟨ba, oa + j * 5 + 1, none⟩ = some (.bool sb) := HAA.out w6 ((HK12.out.trans (HK13.out.trans HKQ.out)).trans hw) 1 _ rfl
                  all_goals have ba2 : w6.cell? ⟨ba, oa + j * 5 + 2, none⟩ = some (.int .i64 cq) := HAA.out w6 ((HK12.out.trans (HK13.out.trans HKQ.out)).trans hw) 2 _ rfl
                  all_goals have ba3 : w6.cell? ⟨ba, oa + j * 5 + 3, none⟩ = some (.bool bd) := HAA.out w6 ((HK12.out.trans (HK13.out.trans HKQ.out)).trans hw) 3 _ rfl
                  all_goals have ba4 : w6.cell? ⟨ba, oa + j * 5 + 4, none⟩ = some (.string bl) := HAA.out w6 ((HK12.out.trans (HK13.out.trans HKQ.out)).trans hw) 4 _ rfl
                  all_goals first | rw [if_pos (by rfl)] | rw [if_neg (by decide)] | skip
                  all_goals try unfold Does
                  all_goals go_simp
                  all_goals first | exact fun L' k => hw | exact fun hh => absurd hh (by decide) | decide
                case hend2 =>
                intro X w6 hL hw
                have HKQ := Lib.hid (HKQ.out.trans hw)
                clear hL hw
                go_wp2
                go_roundw
                case rel => exact ⟨j + 1, by omega, by go_num, HKQ.out⟩
                case measure => simp [intOf]; omega
              · have hjaI : ¬ (j : Int) < (na : Int) := by omega
                have hjaG : (na : Int) ≤ (j : Int) := by omega
                obtain ⟨e, he⟩ : ∃ e, j - na = e := ⟨_, rfl⟩
                have hsub : (j : Int) - (na : Int) = (e : Int) := by omega
                have heB : (e : Int) < (nb : Int) := by have := HLEN.out; omega
                have wr8 := wrapI (a := (e : Int)) (by omega) (by omega)
                have hb0 : e < B.length := by rw [HBL.out]; have := HLEN.out; omega
                have hE : C[j] = B[e] := by
                  have z := HB.out j (by rw [HAL.out]; omega)
                  rw [HAL.out, he, List.getElem?_eq_getElem hc0, List.getElem?_eq_getElem hb0] at z
                  exact Option.some.inj z
                obtain ⟨bb, ob, rfl, hbb⟩ := pkt_read HI12.out hb0
                rw [hE] at hcc
                obtain ⟨⟨pid, sb, cq, bd, bl⟩, hP⟩ : ∃ P, B[e] = P := ⟨_, rfl⟩
                rw [hP] at hcc hbb
                have HCC := Lib.hid hcc
                have HBB := Lib.hid hbb
                clear hcc hbb hP hE hb0 hc0 he
                go_wp2
                have hqq := fun W => neP ⟨pid, sb, cq, bd, bl⟩ ⟨pid, sb, cq, bd, bl⟩ W
                simp only [sameP_self, Bool.not_true] at hqq
                have heg : Try.prog.eqGuardType Try.prog.depth 35 = false := by kernel_rfl
                refine wp_draw (by kernel_rfl) [.int .i64 (j : Int), .slice a11 na c11, .int .i64 (na : Int), .bool false, .bool false, undef, undef, undef, undef, undef, undef, undef, undef, undef, .bool false, .bool false, .int .i64 (j : Int), .slice a11 na c11, .int .i64 (na : Int), .bool true, .bool true, .slice (some ⟨bc, oc, none⟩) nc c13, .int .i64 (j : Int), .pointer (some ⟨bc, oc + j * 5, none⟩), pkV ⟨pid, sb, cq, bd, bl⟩, .slice (some ⟨bb, ob, none⟩) nb c12, .int .i64 (j : Int), .slice a11 na c11, .int .i64 (na : Int), .int .i64 (e : Int), .pointer (some ⟨bb, ob + e * 5, none⟩), pkV ⟨pid, sb, cq, bd, bl⟩, .bool false, .bool false, .bool false]
                  (fun _ W => Keeps wr W) rfl (by kernel_rfl) (fin := ?fin3) ?hfin3 ((Keeps.refl _).eqv (Eqv.drew _)) ?each3 ?hend3
                case hfin3 => simp [seqA, dstOf, Act.put]; rfl
                case each3 =>
                  refine ⟨?_, ?_, ?_, ?_, ?_, ?_, ?_, ?_, ?_, ?_, ?_, ?_, ?_, ?_, ?_, ?_, ?_, ?_, ?_, ?_, ?_, ?_, ?_, ?_, ?_, ?_, ?_, ?_, ?_, ?_, ?_, ?_, ?_, ?_, ?_, trivial⟩
                  all_goals intro X w6 h0 hd hs hw
                  all_goals have bc0 : w6.cell? ⟨bc, oc + j * 5, none⟩ = some (.int .i64 pid) := HCC.out w6 (HKQ.out.trans hw) 0 _ rfl
                  all_goals have bc1 : w6.cell? ⟨bc, oc + j * 5 + 1, none⟩ = some (.bool sb) := HCC.out w6 (HKQ.out.trans hw) 1 _ rfl
                  all_goals have bc2 : w6.cell? ⟨bc, oc + j * 5 + 2, none⟩ = some (.int .i64 cq) := HCC.out w6 (HKQ.out.trans hw) 2 _ rfl
                  all_goals have bc3 : w6.cell? ⟨bc, oc + j * 5 + 3, none⟩ = some (.bool bd) := HCC.out w6 (HKQ.out.trans hw) 3 _ rfl
                  all_goals have bc4 : w6.cell? ⟨bc, oc + j * 5 + 4, none⟩ = some (.string bl) := HCC.out w6 (HKQ.out.trans hw) 4 _ rfl
                  all_goals have bb0 : w6.cell? ⟨bb, ob + e * 5, none⟩ = some (.int .i64 pid) := HBB.out w6 ((HK13.out.trans HKQ.out).trans hw) 0 _ rfl
                  all_goals have bb1 : w6.cell? ⟨bb, ob + e * 5 + 1, none⟩ = some (.bool sb) := HBB.out w6 ((HK13.out.trans HKQ.out).trans hw) 1 _ rfl
                  all_goals have bb2 : w6.cell? ⟨bb, ob + e * 5 + 2, none⟩ = some (.int .i64 cq) := HBB.out w6 ((HK13.out.trans HKQ.out).trans hw) 2 _ rfl
                  all_goals have bb3 : w6.cell? ⟨bb, ob + e * 5 + 3, none⟩ = some (.bool bd) := HBB.out w6 ((HK13.out.trans HKQ.out).trans hw) 3 _ rfl
                  all_goals have bb4 : w6.cell? ⟨bb, ob + e * 5 + 4, none⟩ = some (.string bl) := HBB.out w6 ((HK13.out.trans HKQ.out).trans hw) 4 _ rfl
                  all_goals first | rw [if_pos (by rfl)] | rw [if_neg (by decide)] | skip
                  all_goals try unfold Does
                  all_goals go_simp
                  all_goals first | exact fun L' k => hw | exact fun hh => absurd hh (by decide) | decide
                case hend3 =>
                intro X w6 hL hw
                have HKQ := Lib.hid (HKQ.out.trans hw)
                clear hL hw
                go_wp2
                go_roundw
                case rel => exact ⟨j + 1, by omega, by go_num, HKQ.out⟩
                case measure => simp [intOf]; omega
            · have hjI : ¬ (j : Int) < (nc : Int) := by omega
              have HK := Lib.hid (HKA.out.trans HKQ.out)
              go_wp2_with (first | (go_at_call 14; refine (HSU.out _).mono ?_; rintro _ w12 ⟨rfl, rfl⟩) | (go_at_call 7; refine (HW.out _).mono ?_; rintro _ w9 ⟨rfl, k9⟩; have HK := Lib.hid (HK.out.trans k9); clear k9))
              go_ret
              exact ⟨rfl, HK.out⟩
      · have q2i : (183 : Int) < (Y.size : Int) := by omega
        have q4 : ((Y.size : Int) - 183).tmod 184 ≠ 0 := by rw [Int.tmod_eq_emod_of_nonneg (by omega)]; omega
        have q5 : ((Y.size : Int) - 183) % 184 ≠ 0 := by omega
        clear hYz q3
        go_wp2_with (first | (go_at_call 13; refine (HMD.out _).mono ?_; rintro _ w2 ⟨rfl, k2⟩; have HK := Lib.hid (HK.out.trans k2); clear k2) | (go_at_call 7; refine (HW.out _).mono ?_; rintro _ w9 ⟨rfl, k9⟩; have HK := Lib.hid (HK.out.trans k9); clear k9))
        go_ret
        exact ⟨rfl, HK.out⟩

theorem own : ownKnob Try.prog.godebug = none := by kernel_rfl
theorem laidOut : laidOutB Try.prog = true := by kernel_rfl
set_option maxRecDepth 100000 in
theorem lifted (os : Os) (started : os.Started) (H : Type) (enc : TypeId × Value → H) :
    ReturnsInHanded {} Try.checked os 5 .any (Rows.packerSumSpec.pre6 enc Try.prog Try.f5 Rows.packerSumRow.domain false) (Rows.packerSumSpec.post enc Try.prog Try.f5 false true false false) := by
  refine returnsInHanded_of_change (C := Try.checked) own started (by kernel_rfl) Try.func5
    (ChangeSpec.witness6 (enc := enc) (C := Try.checked) false ⟨#[], #[.string ByteArray.empty, .slice none 0 0], []⟩ 8 (by kernel_rfl) (by kernel_rfl) (by kernel_rfl) (by kernel_rfl)) ?_
  intro W base args ds gs before hval0 hW hcnd _
  have hval : ∀ (j : Nat) t v, Try.f5.params[j]? = some t → args[j]? = some v → Value.okWide Try.prog W .any base t v := hval0
  have hW' := hW
  obtain ⟨p, q, hA0, hV, rfl, hfz, hnd⟩ := hW
  have hA : DataW.TrodAll enc Try.prog W 0 (fun _ => true) true Try.f5.params.toList args.toList ds p := hA0
  rw [Try.params5] at hA hval
  obtain ⟨v0, vs0, d0, ds0, p0, q0, hargs, rfl, rfl, h0, r0⟩ := trodAll_cons hA
  obtain ⟨v1, vs1, d1, ds1, p1, q1, rfl, rfl, rfl, h1, r1⟩ := trodAll_cons r0
  obtain ⟨rfl, rfl, rfl⟩ := trodAll_nil r1
  obtain rfl : args = #[v0, v1] := by cases args; simp_all
  obtain ⟨rfl, rfl⟩ := trodVars_none hV
  obtain ⟨a0, rfl, rfl, rfl, w0⟩ := open_string Try.underlying9 (hval 0 9 v0 rfl rfl) h0
  obtain ⟨a1, len1, cap1, rfl⟩ := okWide_slice Try.underlying22 (hval 1 22 v1 rfl rfl)
  have k1 := h1
  have lt1 : ∀ x ∈ p1, x.block < W.heap.size := by obtain ⟨m, hm⟩ := k1; exact DataW.trod_lt m _ _ _ hm
  obtain ⟨z1, w1⟩ := open_trow h1
  clear hA0 hval0
  refine (walk a0 w0 a1 len1 cap1 z1 W w1).mono fun e W' ⟨he, bel⟩ => ?_
  subst he
  exact ⟨_, rfl, _, _, _, [], _, [], hW', trodAll_mk1 (shut_bool Try.underlying4 _), (trodAll_cons_mk (shut_string Try.underlying9 w0) (trodAll_cons_mk (Below.trod laidOut (by kernel_rfl) (of_decide_eq_true (by kernel_rfl)) k1 bel lt1) trodAll_mk0)), rfl, bel.frame _, fun h => by cases h⟩

theorem over : Rows.packerSumRow.holds Try.pinned (OpenSpec.ofChange Rows.packerSumSpec) :=
  OpenClaim.holds_of_wide 5 Try.f5 rfl rfl rfl rfl rfl rfl rfl ⟨rfl, rfl, rfl, rfl, rfl⟩ rfl rfl rfl rfl rfl (by kernel_rfl) Try.func5 (by kernel_rfl)
    (of_decide_eq_true (by kernel_rfl)) (by unfold Func.isWrapper; first | (rw [if_pos (by decide +kernel)]; kernel_rfl) | (rw [if_neg (by decide +kernel)]; exact ⟨rfl, rfl⟩))
    (fun os started H enc _ => lifted os started H enc)

theorem proved : Rows.PackerSumSaid := over
#print axioms proved
end Go.Proofs.Ytaabfkffemnidaa.packerSum
