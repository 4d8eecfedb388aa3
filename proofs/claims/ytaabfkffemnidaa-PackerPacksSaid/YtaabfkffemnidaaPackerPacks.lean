/-
  For any number of a stream, count and sections PackerPacks returns true: which packets they are, or why none; nothing that was there is changed. No condition.
-/
import Derived.Test.YtaabfkffemnidaaRows
import Derived.Test.YtaabfkffemnidaaPrLaw
namespace Go.Proofs.Ytaabfkffemnidaa.packerPacks
open Go.ChangeShapes Go.WideShapes Go.ChangeAt Go.RowKit Gf Pk Pr
set_option maxRecDepth 100000
open Go.ChangeMaps (open_string shut_string)
set_option linter.unusedVariables false
theorem open_trow2 {H : Type} {enc : TypeId × Value → H} {W : World} {base : Nat} {held : Bool} {a : Option Addr} {len cap : Nat} {d : DataW H} {p : List MemPlace}
    (h : DataW.Trod enc Try.prog W base (fun _ => true) held 22 (.slice a len cap) d p) : ∃ l, IsT W a len l ∧ len ≤ cap ∧ len ≤ maxLen ∧ (a = none → len = 0 ∧ cap = 0) := by
  obtain ⟨l, h1, h2⟩ := open_trow h
  refine ⟨l, h1, h2, ?_⟩
  obtain ⟨fuel, hf⟩ := h
  rcases DataW.trod_slice Try.underlying22 hf with ⟨hcs, _⟩ | ⟨x, ln, cp, elems, rest, m, _, hcs, _, _, hlc, hlm, _⟩
  · simp [Value.cells] at hcs
    obtain ⟨rfl, rfl, rfl⟩ := hcs
    exact ⟨by decide, fun _ => ⟨rfl, rfl⟩⟩
  · simp [Value.cells] at hcs
    obtain ⟨rfl, rfl, rfl⟩ := hcs
    exact ⟨Nat.le_trans hlc hlm, fun e => (by cases e)⟩
theorem pkq_cells {l : List Pkt} {i : Nat} (hi : i < l.length) {x x' : Pkt} (hx : l[i] = x) {o : Nat} {u : Value} (ho : o < 5) (he : pkC x' = (pkC x).take o ++ [u] ++ (pkC x).drop (o + 1)) :
    pkqT.cells (l.set i x') = (pkqT.cells l).take (i * 5 + o) ++ [u] ++ (pkqT.cells l).drop (i * 5 + o + 1) := by
  have hA : (pkqT.cells (l.take i)).length = i * 5 := by rw [RowT.cells_length, List.length_take, Nat.min_eq_left (by omega)]; rfl
  have hC : (pkC x).length = 5 := rfl
  have e0 : l = l.take i ++ x :: l.drop (i + 1) := by
    rw [← hx]
    show l = l.take i ++ l[i] :: l.drop (i + 1)
    rw [List.getElem_cons_drop, List.take_append_drop]
  have e1 : pkqT.cells l = pkqT.cells (l.take i) ++ (pkC x ++ pkqT.cells (l.drop (i + 1))) := by
    conv => lhs; rw [e0]
    rw [RowT.cells_append]; rfl
  have e2 : pkqT.cells (l.set i x') = pkqT.cells (l.take i) ++ (pkC x' ++ pkqT.cells (l.drop (i + 1))) := by
    rw [List.set_eq_take_append_cons_drop, if_pos hi, RowT.cells_append]; rfl
  rw [e2, e1, ← hA, List.take_length_add_append, Nat.add_assoc, List.drop_length_add_append, he, List.take_append_of_le_length (by omega), List.drop_append_of_le_length (by omega)]
  simp only [List.append_assoc]
theorem pkq_put {w : World} {base g cap n : Nat} {l : List Pkt} (h : OwnE pkqT w base (.slice (some ⟨g, 0, none⟩) n cap) l) {i : Nat} (hi : i < l.length) {x x' : Pkt} (hx : l[i] = x) {o : Nat} {u : Value} (ho : o < 5)
    (he : pkC x' = (pkC x).take o ++ [u] ++ (pkC x).drop (o + 1)) : OwnE pkqT (w.setCell ⟨g, i * 5 + o, none⟩ u) base (.slice (some ⟨g, 0, none⟩) n cap) (l.set i x') :=
  h.write (l' := l.set i x') (o := i * 5 + o) [u] (by show i * 5 + o + 1 ≤ l.length * 5; omega) (List.length_set ..) (pkq_cells hi hx ho he)
theorem pkq_read {w : World} {base g cap n : Nat} {l : List Pkt} (h : OwnE pkqT w base (.slice (some ⟨g, 0, none⟩) n cap) l) {i : Nat} (hi : i < l.length) : ∀ W', Keeps w W' → ∀ j v, (pkC l[i])[j]? = some v → W'.cell? ⟨g, i * 5 + j, none⟩ = some v := by
  obtain ⟨a, c, e, hi2, _⟩ := h.is
  cases e
  obtain ⟨b, off, e2, hb, hc⟩ := hi2.get hi
  cases e2
  intro W' k j v hj
  have := (Below.cell k (p := ⟨g, 0 + (i * 5 + j), none⟩) hb).trans (hc j v hj)
  rwa [Nat.zero_add] at this
def mixP (A C : List Pkt) (j : Nat) : List Pkt := A.take j ++ C.drop j
theorem mixP_length {A C : List Pkt} {j : Nat} (h : A.length = C.length) (k : j ≤ A.length) : (mixP A C j).length = C.length := by unfold mixP; rw [List.length_append, List.length_take, List.length_drop]; omega
theorem mixP_get {A C : List Pkt} {j : Nat} (h : A.length = C.length) (k : j < A.length) (z : j < (mixP A C j).length) : (mixP A C j)[j] = C[j]'(by omega) := by
  have e : (mixP A C j)[j]? = some (C[j]'(by omega)) := by
    unfold mixP
    rw [List.getElem?_append_right (by rw [List.length_take]; omega), List.length_take, List.getElem?_drop, show j + (j - min j A.length) = j by omega, List.getElem?_eq_getElem (by omega)]
  rw [List.getElem?_eq_getElem z] at e
  exact Option.some.inj e
theorem mixP_set {A C : List Pkt} {j : Nat} (h : A.length = C.length) (k : j < A.length) : (mixP A C j).set j A[j] = mixP A C (j + 1) := by
  unfold mixP
  have e : C.drop j = C[j]'(by omega) :: C.drop (j + 1) := by rw [List.getElem_cons_drop]
  have hl : (A.take j).length = j := by rw [List.length_take]; omega
  rw [e, List.set_append_right _ _ (by omega), hl, Nat.sub_self, List.set_cons_zero, List.take_add_one, List.getElem?_eq_getElem k, List.append_assoc]
  rfl
theorem text_read {w : World} {a : Option Addr} {len : Nat} {L : List (List UInt8)} (h : IsT w a len L) {j : Nat} (hj : j < L.length) : ∃ b off, a = some ⟨b, off, none⟩ ∧ ∀ W, Keeps w W → W.cell? ⟨b, off + j, none⟩ = some (.string (st L[j])) := by
  obtain ⟨b, off, ha, _⟩ := h.get hj
  refine ⟨b, off, ha, fun W k => ?_⟩
  obtain ⟨b', off', ha', hc⟩ := (h.keeps k).get hj
  rw [ha] at ha'
  cases ha'
  rw [List.getD_eq_getElem?_getD, List.getElem?_eq_getElem hj] at hc
  exact hc
theorem isN {α : Type} {T : RowT α} {w : World} {base : Nat} {v : Value} {l : List α} (h : OwnE T w base v l) {n : Nat} (hn : l.length = n) : ∃ a cap, v = .slice a n cap ∧ IsE T w a n l := by
  obtain ⟨a, cap, e, hi, _⟩ := h.is
  subst hn
  exact ⟨a, cap, e, hi⟩
theorem flat_le : ∀ (L : List (List UInt8)), (∀ s ∈ L, s.length ≤ 1500) → L.flatten.length ≤ 1500 * L.length
  | [], _ => Nat.le_refl _
  | x :: t, h => by
    have h1 := h x (List.mem_cons_self ..)
    have h2 := flat_le t fun s hs => h s (List.mem_cons_of_mem _ hs)
    rw [List.flatten_cons, List.length_append, List.length_cons]; omega
theorem blkE {α : Type} {T : RowT α} {w : World} {base : Nat} {v : Value} {l : List α} (h : OwnE T w base v l) (hne : l ≠ []) : ∃ g cap, v = .slice (some ⟨g, 0, none⟩) l.length cap ∧ v.ownBlock = some g ∧ base ≤ g ∧ l.length ≤ cap ∧ g < w.heap.size := by
  obtain ⟨_, h'⟩ := id h
  rcases h' with ⟨_, h0⟩ | ⟨g, cap, cur, rfl, hb, hh, hn, _⟩
  · exact absurd (List.length_eq_zero_iff.1 h0) hne
  · exact ⟨g, cap, rfl, rfl, hb, hn, (Array.getElem?_eq_some_iff.1 hh).1⟩
def ppRel (w : World) (L : List (List UInt8)) (want i : Value) (wr : World) : Prop := ∃ (k : Nat) (x : Int), k ≤ L.length ∧ x = (k : Int) - 1 ∧ i = .int .i64 x ∧ want = .int .i64 (erL (L.drop k)) ∧ Keeps w wr
def pqRel (w : World) (base : Nat) (v : Value) (A C : List Pkt) (i : Value) (wr : World) : Prop := ∃ j : Nat, j ≤ A.length ∧ i = .int .i64 (j : Int) ∧ OwnE pkqT wr base v (mixP A C j) ∧ Keeps w wr
set_option maxHeartbeats 12800000 in
theorem walk (pid : Int) (hpw : (Lit.int .i64 pid).wf = true) (count : Int) (hcn : (Lit.int .i64 count).wf = true) (a : Option Addr) (len cap : Nat) (L : List (List UInt8)) (w : World) (hI0 : IsT w a len L ∧ len ≤ cap ∧ len ≤ maxLen ∧ (a = none → len = 0 ∧ cap = 0)) :
    Calls Try.prog 3 #[.int .i64 pid, .int .i64 count, .slice a len cap] w fun e w' => e = .returned (.bool true) ∧ Below w.heap.size w w' := by
  have HW := Lib.hid (fun W => awake15_any W W (Keeps.refl W))
  obtain ⟨hI, hlc, hlm, -⟩ := hI0
  have HFE := Lib.hid (prfew_any (cap := cap) w hI hlm)
  obtain ⟨N, hN⟩ : ∃ N, L.length = N := ⟨_, rfl⟩
  have hll : len = N := by rw [← hN]; exact hI.1
  subst hll
  have HI := Lib.hid hI
  have HN := Lib.hid hN
  clear hI hN hlm hpw hcn
  obtain ⟨F, hF⟩ : ∃ F, fewS L = F := ⟨_, rfl⟩
  rw [hF] at HFE
  cases F with
  | false =>
    have HK := Lib.hid (Keeps.refl w)
    clear hF
    go_enter Try.func3, Try.ntmps3
    go_wp2_with (first | (go_at_call 6; refine HFE.out.mono ?_; rintro _ _ ⟨rfl, rfl⟩) | (go_at_call 7; refine (HW.out _).mono ?_; rintro _ w9 ⟨rfl, k9⟩; have HK := Lib.hid (HK.out.trans k9); clear k9))
    go_ret
    exact ⟨rfl, HK.out⟩
  | true =>
    obtain ⟨hz, hn⟩ : (∀ s ∈ L, s.length ≤ 1500) ∧ L.length ≤ 20 := by unfold fewS at hF; simpa using hF
    have HZ := Lib.hid hz
    have HPA := Lib.hid (prpack_any pid count (cap := cap) w HI.out hlc (by omega) (fun s hs => by have := hz s hs; omega))
    unfold PaPost at HPA
    obtain ⟨⟨PL, Pn, Pe⟩, hQ⟩ : ∃ q, paO pid count L = q := ⟨_, rfl⟩
    rw [hQ] at HPA
    have HQ := Lib.hid hQ
    obtain ⟨M, hM⟩ : ∃ M, PL.length = M := ⟨_, rfl⟩
    simp only [hM] at HPA
    have HM := Lib.hid hM
    rw [HN.out] at hn
    clear hF hz hQ hM
    have wr0 := wrapI (a := (len : Int) - 1) (by omega) (by omega)
    go_enter Try.func3, Try.ntmps3
    go_wp2_with (first | (go_at_call 6; refine HFE.out.mono ?_; rintro _ _ ⟨rfl, rfl⟩) | (go_at_call 8; refine HPA.out.mono ?_; rintro _ w2 ⟨a2, cap2, rfl, hi2, hc2, k2⟩; have HI2 := Lib.hid hi2; have HK2 := Lib.hid k2; clear k2 hi2 hc2))
    go_loopw [10, 11] (fun want i wr => ppRel w2 L want i wr) (fun _ i _ => (intOf i + 1).toNat)
    case atStart => exact ⟨len, (len : Int) - 1, by rw [HN.out]; omega, rfl, by go_num, by rw [List.drop_of_length_le (by rw [HN.out]; omega)]; rfl, Keeps.refl w2⟩
    case round =>
      obtain ⟨k, x, hk, hx, rfl, rfl, hp⟩ := hrel
      rw [HN.out] at hk
      have HP := Lib.hid hp
      clear hp
      by_cases hk0 : 1 ≤ k
      · obtain ⟨j, rfl⟩ : ∃ j, k = j + 1 := ⟨k - 1, by omega⟩
        obtain rfl : x = (j : Int) := by omega
        clear hx
        have hg : (0 : Int) ≤ (j : Int) := by omega
        have hlI : (j : Int) < (len : Int) := by omega
        have hkL : j < L.length := by rw [HN.out]; omega
        obtain ⟨b1, off1, rfl, htx⟩ := text_read HI.out hkL
        have HER := Lib.hid (show erL (L.drop j) = if ck15 L[j] ≠ 0 then ck15 L[j] else erL (L.drop (j + 1)) by rw [List.drop_eq_getElem_cons hkL]; rfl)
        obtain ⟨T, hT⟩ : ∃ T, st L[j] = T := ⟨_, rfl⟩
        have hTl : L[j] = ls T := by rw [← hT, ls_st]
        have hTz : T.size ≤ 1000000 := by have := HZ.out _ (List.getElem_mem hkL); rw [← hT, st_size]; omega
        have HRC := Lib.hid (fun W => rprcheck_any W T W hTz (Keeps.refl W))
        unfold Ck15Post at HRC
        have HCK := Lib.hid (fun W => prcheck_any T W hTz)
        unfold Ck15Post at HCK
        rw [hT] at htx
        have hc1 := htx _ (HK2.out.trans HP.out)
        have HTX := Lib.hid htx
        rw [hTl] at HER
        obtain ⟨c, hc⟩ : ∃ c, ck15 (ls T) = c := ⟨_, rfl⟩
        rw [hc] at HRC HCK HER
        obtain ⟨E0, hE0⟩ : ∃ E0, erL (L.drop (j + 1)) = E0 := ⟨_, rfl⟩
        rw [hE0] at HER
        rw [hE0]
        have wr1 := wrapI (a := (j : Int) - 1) (by omega) (by omega)
        clear htx hT hTl hTz hc hE0
        by_cases hc0 : c = 0
        · rw [if_neg (fun x => x hc0)] at HER
          go_wp2_with (first | (go_at_call 9; refine (HRC.out _).mono ?_; rintro _ w3 ⟨rfl, k3⟩; have HP := Lib.hid (HP.out.trans k3); have hc1 := HTX.out _ (HK2.out.trans HP.out); clear k3) | (go_at_call 10; refine (HCK.out _).mono ?_; rintro _ w4 ⟨rfl, k4⟩; have HP := Lib.hid (HP.out.trans k4); clear k4))
          go_roundw
          case rel => exact ⟨j, (j : Int) - 1, by rw [HN.out]; omega, rfl, by go_num, by rw [HER.out], HP.out⟩
          case measure => simp [intOf]
        · rw [if_pos hc0] at HER
          go_wp2_with (first | (go_at_call 9; refine (HRC.out _).mono ?_; rintro _ w3 ⟨rfl, k3⟩; have HP := Lib.hid (HP.out.trans k3); have hc1 := HTX.out _ (HK2.out.trans HP.out); clear k3) | (go_at_call 10; refine (HCK.out _).mono ?_; rintro _ w4 ⟨rfl, k4⟩; have HP := Lib.hid (HP.out.trans k4); clear k4))
          go_roundw
          case rel => exact ⟨j, (j : Int) - 1, by rw [HN.out]; omega, rfl, by go_num, by rw [HER.out], HP.out⟩
          case measure => simp [intOf]
      · obtain rfl : k = 0 := by omega
        obtain rfl : x = -1 := by omega
        rw [List.drop_zero]
        clear hx hk hk0
        have hg : ¬ (0 : Int) ≤ -1 := by decide
        have HK := Lib.hid (HK2.out.trans HP.out)
        by_cases hok : okS pid count
        · have hok' := hok
          obtain ⟨⟨o1, o2⟩, o3, o4⟩ := hok'
          have p1 : ¬ pid < 0 := by omega
          have p2 : ¬ 8190 < pid := by omega
          have p3 : ¬ count < 0 := by omega
          have p4 : ¬ 15 < count := by omega
          by_cases hE : erL L = 0
          · have hq2 := HQ.out
            have hcks := erL_zero.1 hE
            rw [paO_ok hok hcks] at hq2
            simp only [Prod.mk.injEq] at hq2
            obtain ⟨rfl, rfl, rfl⟩ := hq2
            have hmB : (bodies L).length = M := by rw [← HM.out, paL_length]
            have hmb := (many_bound (L := L) fun s hs => by have := ck15_good (hcks s hs); omega).2
            have HBO := Lib.hid (fun W (k : Keeps w W) => prbodies_any (cap := cap) W (HI.out.keeps k) (fun s hs => by have := ck15_good (hcks s hs); omega) (by rw [HN.out]; omega))
            have HBL := Lib.hid (show (bodP L).length = M by unfold bodP; rw [List.length_map]; exact hmB)
            have HMB := Lib.hid hmB
            rw [hmB, HN.out] at hmb
            have hfl : L.flatten.length ≤ 30000 := by have := flat_le L HZ.out; rw [HN.out] at this; omega
            have hMb : M ≤ 1000 := by omega
            rw [hE, hmB]
            obtain ⟨wq, rfl⟩ : ∃ wq, wq = wr := ⟨_, rfl⟩
            have wr1 := wrapI (a := (count : Int) + (M : Int)) (by omega) (by omega)
            clear hE hmb hfl hcks hmB
            go_wp2_with (first | (go_at_call 11; refine (HBO.out _ HK.out).mono ?_; rintro _ w5 ⟨v5, rfl, ho5, k5⟩; obtain ⟨a5, c5, rfl, hi5⟩ := isN ho5 HBL.out; have HO5 := Lib.hid ho5; have HK5 := Lib.hid k5; clear ho5 k5 hi5))
            go_loopw [14] (fun i wr => pqRel wq wq.heap.size (.slice a5 M c5) (paL pid count L) (bodP L) i wr) (fun i _ => M - (intOf i).toNat)
            case atStart => exact ⟨0, Nat.zero_le _, rfl, HO5.out, HK5.out⟩
            case round =>
              obtain ⟨j, hj, rfl, ho, hkq⟩ := hrel
              rw [HM.out] at hj
              by_cases hjM : j < M
              · have hjI : (j : Int) < (M : Int) := by omega
                have hjA : j < (paL pid count L).length := by rw [HM.out]; exact hjM
                have hjB : j < (bodies L).length := by rw [HMB.out]; exact hjM
                have hAC : (paL pid count L).length = (bodP L).length := by rw [HM.out, HBL.out]
                have hml := mixP_length (j := j) hAC (by omega)
                have hjm : j < (mixP (paL pid count L) (bodP L) j).length := by rw [hml, HBL.out]; exact hjM
                obtain ⟨g, cg, hv, hbk, hbs, hcg, hgs⟩ := blkE ho (by intro e; rw [e] at hjm; simp at hjm)
                simp only [Value.slice.injEq] at hv
                obtain ⟨rfl, -, rfl⟩ := hv
                obtain ⟨⟨sb, bl⟩, hbj⟩ : ∃ q, (bodies L)[j] = q := ⟨_, rfl⟩
                have hget : (mixP (paL pid count L) (bodP L) j)[j] = ⟨0, sb, 0, false, st bl⟩ := by
                  rw [mixP_get hAC hjA hjm]
                  unfold bodP
                  rw [List.getElem_map, hbj]; rfl
                have hA : (paL pid count L)[j] = ⟨pid, sb, (count + (j : Int)) % 16, false, st bl⟩ := by
                  have e := paL_get pid count L hjB
                  rw [List.getElem?_eq_getElem hjA, hbj] at e
                  exact Option.some.inj e
                obtain ⟨cq, hcq⟩ : ∃ cq, (count + (j : Int)) % 16 = cq := ⟨_, rfl⟩
                rw [hcq] at hA
                have ho1 := pkq_put ho hjm hget (x' := ⟨pid, sb, 0, false, st bl⟩) (o := 0) (u := .int .i64 pid) (by decide) rfl
                have hjm1 : j < ((mixP (paL pid count L) (bodP L) j).set j ⟨pid, sb, 0, false, st bl⟩).length := by rw [List.length_set]; exact hjm
                have ho2 := pkq_put ho1 hjm1 (List.getElem_set_self ..) (x' := ⟨pid, sb, cq, false, st bl⟩) (o := 2) (u := .int .i64 cq) (by decide) rfl
                have hk1 : Keeps wq (wr.setCell ⟨g, j * 5 + 0, none⟩ (.int .i64 pid)) := (only_setCells g [.int .i64 pid] (j * 5 + 0) wr).keeps hkq hbs
                have hk2 : Keeps wq ((wr.setCell ⟨g, j * 5 + 0, none⟩ (.int .i64 pid)).setCell ⟨g, j * 5 + 2, none⟩ (.int .i64 cq)) := (only_setCells g [.int .i64 cq] (j * 5 + 2) _).keeps hk1 hbs
                have hrd := pkq_read ho2 (i := j) (by rw [List.length_set, List.length_set]; exact hjm)
                rw [List.getElem_set_self] at hrd
                rw [List.set_set, ← hA, mixP_set hAC hjA] at ho2
                obtain ⟨b2, off2, rfl, hcell⟩ := pkt_read HI2.out hjA
                rw [hA] at hcell
                have q0 : wr.cell? ⟨g, j * 5, none⟩ = some (.int .i64 0) := pkq_read ho hjm wr (Keeps.refl wr) 0 _ (by rw [hget]; rfl)
                have f0 : wr.frozen? ⟨g, j * 5, none⟩ = false := (ho.there hjm 0 (by decide)).2
                have q2 : (wr.setCell ⟨g, j * 5, none⟩ (.int .i64 pid)).cell? ⟨g, j * 5 + 2, none⟩ = some (.int .i64 0) := pkq_read ho1 hjm1 _ (Keeps.refl _) 2 _ (by rw [List.getElem_set_self]; rfl)
                have f2 : (wr.setCell ⟨g, j * 5, none⟩ (.int .i64 pid)).frozen? ⟨g, j * 5 + 2, none⟩ = false := (ho1.there hjm1 2 (by decide)).2
                have HO2 := Lib.hid ho2
                have HK2' := Lib.hid hk2
                have HRD := Lib.hid hrd
                have HCE := Lib.hid hcell
                have wr2 := wrapI (a := (count : Int) + (j : Int)) (by omega) (by omega)
                have wr3 := wrapI (a := (j : Int) + 1) (by omega) (by omega)
                have htm : (count + (j : Int)).tmod 16 = cq := by rw [Int.tmod_eq_emod_of_nonneg (by omega)]; exact hcq
                clear hcell hrd ho2 ho1 ho hk1 hk2 hjm1 hml hget hA hAC hbj hkq
                go_wp2
                obtain ⟨W9, hW9⟩ : ∃ W9, (wr.setCell ⟨g, j * 5, none⟩ (.int .i64 pid)).setCell ⟨g, j * 5 + 2, none⟩ (.int .i64 cq) = W9 := ⟨_, rfl⟩
                have hW0 : (wr.setCell ⟨g, j * 5 + 0, none⟩ (.int .i64 pid)).setCell ⟨g, j * 5 + 2, none⟩ (.int .i64 cq) = W9 := hW9
                rw [hW0] at HO2 HK2' HRD
                rw [hW9]
                clear hW9 hW0 q0 f0 q2 f2
                have HPL := Lib.hid (fun W => pkplain_any ⟨pid, sb, cq, false, st bl⟩ W)
                have hqq := fun W => neQ ⟨pid, sb, cq, false, st bl⟩ ⟨pid, sb, cq, false, st bl⟩ W
                simp only [sameP_self, Bool.not_true] at hqq
                have heg := egQ
                refine wp_draw (by kernel_rfl) [.slice (some ⟨b2, off2, none⟩) M cap2, .int .i64 (j : Int), .pointer (some ⟨b2, off2 + j * 5, none⟩), pkV ⟨pid, sb, cq, false, st bl⟩, pkV ⟨pid, sb, cq, false, st bl⟩, .slice (some ⟨g, 0, none⟩) M c5, .int .i64 (j : Int), .pointer (some ⟨g, j * 5, none⟩), pkV ⟨pid, sb, cq, false, st bl⟩, .bool false]
                  (fun _ W => Keeps W9 W) rfl (by kernel_rfl) (fin := ?fin0) ?hfin0 ((Keeps.refl _).eqv (Eqv.drew _)) ?each0 ?hend0
                case hfin0 => simp [seqA, dstOf, Act.put]; rfl
                case each0 =>
                  refine ⟨?_, ?_, ?_, ?_, ?_, ?_, ?_, ?_, ?_, ?_, trivial⟩
                  all_goals intro X w6 h0 hd hs hw
                  all_goals have p0 : w6.cell? ⟨b2, off2 + j * 5, none⟩ = some (.int .i64 pid) := HCE.out w6 (HP.out.trans (HK2'.out.trans hw)) 0 _ rfl
                  all_goals have p1 : w6.cell? ⟨b2, off2 + j * 5 + 1, none⟩ = some (.bool sb) := HCE.out w6 (HP.out.trans (HK2'.out.trans hw)) 1 _ rfl
                  all_goals have p2 : w6.cell? ⟨b2, off2 + j * 5 + 2, none⟩ = some (.int .i64 cq) := HCE.out w6 (HP.out.trans (HK2'.out.trans hw)) 2 _ rfl
                  all_goals have p3 : w6.cell? ⟨b2, off2 + j * 5 + 3, none⟩ = some (.bool false) := HCE.out w6 (HP.out.trans (HK2'.out.trans hw)) 3 _ rfl
                  all_goals have p4 : w6.cell? ⟨b2, off2 + j * 5 + 4, none⟩ = some (.string (st bl)) := HCE.out w6 (HP.out.trans (HK2'.out.trans hw)) 4 _ rfl
                  all_goals have r0 : w6.cell? ⟨g, j * 5, none⟩ = some (.int .i64 pid) := HRD.out w6 hw 0 _ rfl
                  all_goals have r1 : w6.cell? ⟨g, j * 5 + 1, none⟩ = some (.bool sb) := HRD.out w6 hw 1 _ rfl
                  all_goals have r2 : w6.cell? ⟨g, j * 5 + 2, none⟩ = some (.int .i64 cq) := HRD.out w6 hw 2 _ rfl
                  all_goals have r3 : w6.cell? ⟨g, j * 5 + 3, none⟩ = some (.bool false) := HRD.out w6 hw 3 _ rfl
                  all_goals have r4 : w6.cell? ⟨g, j * 5 + 4, none⟩ = some (.string (st bl)) := HRD.out w6 hw 4 _ rfl
                  all_goals try unfold Does
                  all_goals go_simp
                  all_goals first | exact fun L' k => hw | ((with_reducible refine (HPL.out w6).mono ?_); rintro e w8 ⟨rfl, k8⟩; exact ⟨_, rfl, rfl, fun _ _ => hw.trans k8⟩)
                case hend0 =>
                intro X w6 hL hw
                have HK6 := Lib.hid (HK2'.out.trans hw)
                have HO6 := Lib.hid (HO2.out.keeps hw)
                clear hL hw
                go_wp2
                go_roundw
                case rel => exact ⟨j + 1, by rw [HM.out]; omega, by go_num, HO6.out, HK6.out⟩
                case measure => simp [intOf]; omega
              · have hjI : ¬ (j : Int) < (M : Int) := by omega
                have HK := Lib.hid (HK.out.trans hkq)
                clear ho hkq
                go_wp2_with (first | (go_at_call 7; refine (HW.out _).mono ?_; rintro _ w9 ⟨rfl, k9⟩; have HK := Lib.hid (HK.out.trans k9); clear k9))
                go_ret
                exact ⟨rfl, HK.out⟩
          · have hq2 := HQ.out
            have hpe : paE pid count L = erL L := by unfold paE; rw [if_pos hok]
            rw [paO_no (by rw [hpe]; exact hE), hpe] at hq2
            simp only [Prod.mk.injEq] at hq2
            obtain ⟨rfl, rfl, rfl⟩ := hq2
            obtain rfl : M = 0 := HM.out.symm
            clear hpe
            obtain ⟨E0, hE0⟩ : ∃ E0, erL L = E0 := ⟨_, rfl⟩
            rw [hE0] at hE ⊢
            clear hE0
            go_wp2_with (first | (go_at_call 7; refine (HW.out _).mono ?_; rintro _ w9 ⟨rfl, k9⟩; have HK := Lib.hid (HK.out.trans k9); clear k9))
            go_ret
            exact ⟨rfl, HK.out⟩
        · have hq2 := HQ.out
          have hpe : paE pid count L = 15 := by unfold paE; rw [if_neg hok]
          rw [paO_no (by rw [hpe]; decide), hpe] at hq2
          simp only [Prod.mk.injEq] at hq2
          obtain ⟨rfl, rfl, rfl⟩ := hq2
          obtain rfl : M = 0 := HM.out.symm
          obtain ⟨E0, hE0⟩ : ∃ E0, erL L = E0 := ⟨_, rfl⟩
          rw [hE0]
          clear hE0 hpe
          by_cases p1 : pid < 0
          · clear hok
            go_wp2_with (first | (go_at_call 7; refine (HW.out _).mono ?_; rintro _ w9 ⟨rfl, k9⟩; have HK := Lib.hid (HK.out.trans k9); clear k9))
            go_ret
            exact ⟨rfl, HK.out⟩
          by_cases p2 : 8190 < pid
          · clear hok
            go_wp2_with (first | (go_at_call 7; refine (HW.out _).mono ?_; rintro _ w9 ⟨rfl, k9⟩; have HK := Lib.hid (HK.out.trans k9); clear k9))
            go_ret
            exact ⟨rfl, HK.out⟩
          by_cases p3 : count < 0
          · clear hok
            go_wp2_with (first | (go_at_call 7; refine (HW.out _).mono ?_; rintro _ w9 ⟨rfl, k9⟩; have HK := Lib.hid (HK.out.trans k9); clear k9))
            go_ret
            exact ⟨rfl, HK.out⟩
          have p4 : 15 < count := by unfold okS at hok; omega
          clear hok
          go_wp2_with (first | (go_at_call 7; refine (HW.out _).mono ?_; rintro _ w9 ⟨rfl, k9⟩; have HK := Lib.hid (HK.out.trans k9); clear k9))
          go_ret
          exact ⟨rfl, HK.out⟩

theorem own : ownKnob Try.prog.godebug = none := by kernel_rfl
theorem laidOut : laidOutB Try.prog = true := by kernel_rfl
set_option maxRecDepth 100000 in
theorem lifted (os : Os) (started : os.Started) (H : Type) (enc : TypeId × Value → H) :
    ReturnsInHanded {} Try.checked os 3 .any (Rows.packerPacksSpec.pre6 enc Try.prog Try.f3 Rows.packerPacksRow.domain false) (Rows.packerPacksSpec.post enc Try.prog Try.f3 false true false false) := by
  refine returnsInHanded_of_change (C := Try.checked) own started (by kernel_rfl) Try.func3
    (ChangeSpec.witness6 (enc := enc) (C := Try.checked) false ⟨#[], #[.int .i64 0, .int .i64 0, .slice none 0 0], []⟩ 8 (by kernel_rfl) (by kernel_rfl) (by kernel_rfl) (by kernel_rfl)) ?_
  intro W base args ds gs before hval0 hW hcnd _
  have hval : ∀ (j : Nat) t v, Try.f3.params[j]? = some t → args[j]? = some v → Value.okWide Try.prog W .any base t v := hval0
  have hW' := hW
  obtain ⟨p, q, hA0, hV, rfl, hfz, hnd⟩ := hW
  have hA : DataW.TrodAll enc Try.prog W 0 (fun _ => true) true Try.f3.params.toList args.toList ds p := hA0
  rw [Try.params3] at hA hval
  obtain ⟨v0, vs0, d0, ds0, p0, q0, hargs, rfl, rfl, h0, r0⟩ := trodAll_cons hA
  obtain ⟨v1, vs1, d1, ds1, p1, q1, rfl, rfl, rfl, h1, r1⟩ := trodAll_cons r0
  obtain ⟨v2, vs2, d2, ds2, p2, q2, rfl, rfl, rfl, h2, r2⟩ := trodAll_cons r1
  obtain ⟨rfl, rfl, rfl⟩ := trodAll_nil r2
  obtain rfl : args = #[v0, v1, v2] := by cases args; simp_all
  obtain ⟨rfl, rfl⟩ := trodVars_none hV
  obtain ⟨a0, rfl, rfl, rfl, w0⟩ := open_int Try.underlying3 (hval 0 3 v0 rfl rfl) h0
  obtain ⟨a1, rfl, rfl, rfl, w1⟩ := open_int Try.underlying3 (hval 1 3 v1 rfl rfl) h1
  obtain ⟨a2, len2, cap2, rfl⟩ := okWide_slice Try.underlying22 (hval 2 22 v2 rfl rfl)
  have k2 := h2
  have lt2 : ∀ x ∈ p2, x.block < W.heap.size := by obtain ⟨m, hm⟩ := k2; exact DataW.trod_lt m _ _ _ hm
  obtain ⟨z2, w2⟩ := open_trow2 h2
  clear hA0 hval0
  refine (walk a0 w0 a1 w1 a2 len2 cap2 z2 W w2).mono fun e W' ⟨he, bel⟩ => ?_
  subst he
  exact ⟨_, rfl, _, _, _, [], _, [], hW', trodAll_mk1 (shut_bool Try.underlying4 _), (trodAll_cons_mk (shut_int Try.underlying3 w0) (trodAll_cons_mk (shut_int Try.underlying3 w1) (trodAll_cons_mk (Below.trod laidOut (by kernel_rfl) (of_decide_eq_true (by kernel_rfl)) k2 bel lt2) trodAll_mk0))), rfl, bel.frame _, fun h => by cases h⟩

theorem over : Rows.packerPacksRow.holds Try.pinned (OpenSpec.ofChange Rows.packerPacksSpec) :=
  OpenClaim.holds_of_wide 3 Try.f3 rfl rfl rfl rfl rfl rfl rfl ⟨rfl, rfl, rfl, rfl, rfl⟩ rfl rfl rfl rfl rfl (by kernel_rfl) Try.func3 (by kernel_rfl)
    (of_decide_eq_true (by kernel_rfl)) (by unfold Func.isWrapper; first | (rw [if_pos (by decide +kernel)]; kernel_rfl) | (rw [if_neg (by decide +kernel)]; exact ⟨rfl, rfl⟩))
    (fun os started H enc _ => lifted os started H enc)

theorem proved : Rows.PackerPacksSaid := over
#print axioms proved
end Go.Proofs.Ytaabfkffemnidaa.packerPacks
