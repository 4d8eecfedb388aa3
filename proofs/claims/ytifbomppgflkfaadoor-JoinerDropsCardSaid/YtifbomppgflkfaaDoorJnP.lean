/-
  The packets of sections with bodies, as layer 16's statements make them.
-/
import Derived.Test.YtifbomppgflkfaaDoorPrRef
import Derived.Test.YtifbomppgflkfaaDoorPrSec
import Derived.Test.YtifbomppgflkfaaDoorJnGo
import Derived.Test.YtifbomppgflkfaaDoorPkArgs
namespace Go.Proofs.YtifbomppgflkfaaDoor
open Go.RowKit Gf Pk Pr Jn
set_option maxRecDepth 100000
def secsB (L : List (List UInt8)) : List (List UInt8) := L.map fun s => mdB (st s)
theorem secsB_length (L : List (List UInt8)) : (secsB L).length = L.length := List.length_map ..
theorem secsB_next {L : List (List UInt8)} {k : Nat} (h : k < L.length) : secsB (L.take (k + 1)) = secsB (L.take k) ++ [mdB (st L[k])] := by
  unfold secsB; rw [List.take_add_one, List.getElem?_eq_getElem h, List.map_append]; rfl
theorem secsB_len {L : List (List UInt8)} (h : ∀ s ∈ L, s.length ≤ 1400) : ∀ s ∈ secsB L, 12 ≤ s.length ∧ s.length ≤ 1412 := by
  intro s hs
  obtain ⟨x, hx, rfl⟩ := List.mem_map.1 hs
  have := h x hx
  have h2 := mdB_length (st x)
  rw [st_size] at h2
  exact ⟨by omega, by omega⟩
/-- The first packets of bodies. -/
def pkF (count : Int) (b : List (Bool × List UInt8)) : Nat → List Pkt
  | 0 => []
  | k + 1 => pkF count b k ++ [bdP count (b.getD k (false, [])) k]
theorem pkF_length (count : Int) (b : List (Bool × List UInt8)) : ∀ k, (pkF count b k).length = k
  | 0 => rfl
  | k + 1 => by show (pkF count b k ++ [_]).length = _; rw [List.length_append, pkF_length count b k]; rfl
theorem bds_few : ∀ (f : Nat) (rest : List UInt8) (r : Nat) (ns : List Nat), (bds f rest r ns).length ≤ f
  | 0, _, _, _ => Nat.le_refl 0
  | f + 1, rest, r, ns => by
    unfold bds
    split
    · exact Nat.zero_le _
    · split
      · exact Nat.succ_le_succ (bds_few f _ _ _)
      · split
        · exact Nat.succ_le_succ (Nat.zero_le _)
        · exact Nat.succ_le_succ (bds_few f _ _ _)
theorem flat_few {m : Nat} : ∀ {L : List (List UInt8)}, (∀ s ∈ L, s.length ≤ m) → L.flatten.length ≤ m * L.length
  | [], _ => Nat.zero_le _
  | s :: L, h => by
    have h1 := h s (List.mem_cons_self ..)
    have h2 := flat_few (L := L) fun x hx => h x (List.mem_cons_of_mem _ hx)
    rw [List.flatten_cons, List.length_append, List.length_cons, Nat.mul_succ]; omega
theorem secsB_bodies {L : List (List UInt8)} (h : ∀ s ∈ L, s.length ≤ 1400) (hn : L.length ≤ 20) : (bodies (secsB L)).length ≤ 28240 := by
  have h1 := bds_few (secsB L).flatten.length (secsB L).flatten 0 ((secsB L).map List.length)
  have h2 := flat_few (m := 1412) (L := secsB L) fun s hs => (secsB_len h s hs).2
  rw [secsB_length] at h2
  show (bds _ _ _ _).length ≤ _
  omega
theorem pkF_next {count : Int} {b : List (Bool × List UInt8)} {k : Nat} (h : k < b.length) : pkF count b (k + 1) = pkF count b k ++ [bdP count b[k] k] := by
  show pkF count b k ++ [bdP count (b.getD k (false, [])) k] = _
  rw [List.getD_eq_getElem?_getD, List.getElem?_eq_getElem h]; rfl
def pdRel (w : World) (L : List (List UInt8)) (v i : Value) (wr : World) : Prop :=
  ∃ k : Nat, k ≤ L.length ∧ i = .int .i64 (k : Int) ∧ OwnE rowT wr w.heap.size v (secsB (L.take k)) ∧ Keeps w wr
def peRel (w3 : World) (count : Int) (b : List (Bool × List UInt8)) (v i : Value) (wr : World) : Prop :=
  ∃ k : Nat, k ≤ b.length ∧ i = .int .i64 (k : Int) ∧ OwnE pktT wr w3.heap.size v (pkF count b k) ∧ Keeps w3 wr
theorem once_kpt {wr W : World} {X : Obj} {n : Nat} {L : Nat → Bool} (h : Once n (Eqv wr) (Eqv (wr.alloc X)) L W) : Keeps wr W := by
  cases h4 : L n
  · exact (Keeps.refl wr).eqv (h.1 h4)
  · exact ((Keeps.refl wr).alloc X).eqv (h.2 h4)
set_option maxHeartbeats 12800000 in
theorem jnpacked_any {a : Option Addr} {len cap : Nat} {L : List (List UInt8)} (w : World) (count : Int) (h : IsT w a len L) (hs : ∀ s ∈ L, s.length ≤ 1400) (hn : L.length ≤ 20) (hc : 0 ≤ count ∧ count ≤ 15) :
    Calls Tryd.prog 20 #[.slice a len cap, .int .i64 count] w fun e w' => ∃ v u, e = .returned (.tuple #[v, u]) ∧ OwnE rowT w' w.heap.size v (secsB L) ∧ OwnE pktT w' w.heap.size u (pkF count (bodies (secsB L)) (bodies (secsB L)).length) ∧ Keeps w w' := by
  have hl : len = L.length := h.1
  have HI := Lib.hid h
  have HN := Lib.hid hl.symm
  have HS := Lib.hid hs
  have hnb : len ≤ 20 := by omega
  clear h hs hn hl
  go_enter Tryd.func20, Tryd.ntmps20
  go_wp2
  go_loopw [6, 7] (fun v i wr => pdRel w L v i wr) (fun _ i _ => len - (intOf i).toNat)
  case atStart => exact ⟨0, Nat.zero_le _, rfl, OwnE.nil _ _, Keeps.refl w⟩
  case round =>
    obtain ⟨k, hk, rfl, ho, hkp⟩ := hrel
    rw [HN.out] at hk
    have HO := Lib.hid ho
    have HK := Lib.hid hkp
    clear ho hkp
    by_cases hlt : k < len
    · have hlI : (k : Int) < (len : Int) := by omega
      have hkL : k < L.length := by rw [HN.out]; exact hlt
      obtain ⟨b1, off1, rfl, hc1⟩ := (HI.out.keeps HK.out).get hkL
      rw [List.getD_eq_getElem?_getD, List.getElem?_eq_getElem hkL] at hc1
      simp only [Option.getD_some] at hc1
      have HX1 := Lib.hid (secsB_next hkL)
      have hz := HS.out _ (List.getElem_mem hkL)
      obtain ⟨T, hT⟩ : ∃ T, st L[k] = T := ⟨_, rfl⟩
      have hTz : T.size ≤ 1400 := by rw [← hT, st_size]; exact hz
      rw [hT] at hc1 HX1
      have wr1 := wrapI (a := (k : Int) + 1) (by omega) (by omega)
      have HMD := Lib.hid (fun W => prmade_any W T W (by omega) (Keeps.refl W))
      obtain ⟨M, hM⟩ : ∃ M, mdB T = M := ⟨_, rfl⟩
      rw [hM] at HMD HX1
      obtain ⟨Y, hY⟩ : ∃ Y, st M = Y := ⟨_, rfl⟩
      have HY := Lib.hid hY
      simp only [hY] at HMD
      have hl1 := secsB_length (L.take k)
      rw [List.length_take, HN.out, Nat.min_eq_left hk] at hl1
      have HL1 := Lib.hid hl1
      clear hM hY hl1 hTz hT hz
      go_wp2_with (first | (go_at_call 21; refine (HMD.out _).mono ?_; rintro _ w2 ⟨rfl, k2⟩; have HL2w := Lib.hid (HO.out.keeps k2); have HK2 := Lib.hid (HK.out.trans k2); clear k2) | (at_builtin; refine wp_pushE (T := rowT) rfl _ _ rfl M #[.string Y] (by rw [← HY.out]; rfl) w2.heap.size rfl HL2w.out rfl rfl (by rw [HL1.out]; omega) (Below.size HK2.out) 9 ?_; intro v4 w4 o4 g4 at4; have HO4 := Lib.hid o4; have HK4 := Lib.hid ((HK2.out.alloc (.cells #[.string Y] 9)).grown g4 HL2w.out.block); clear o4 g4 at4))
      go_roundw
      case rel => exact ⟨k + 1, by rw [HN.out]; omega, by go_num, by rw [HX1.out]; exact HO4.out, HK4.out⟩
      case measure => simp [intOf]; omega
    · have hlI : ¬ (k : Int) < (len : Int) := by omega
      have htk : L.take k = L := List.take_of_length_le (by rw [HN.out]; omega)
      rw [htk] at HO
      have hlk := secsB_length L
      rw [HN.out] at hlk
      obtain ⟨al, cl, hv, hil, _⟩ := HO.out.is
      rw [hlk] at hv hil
      subst hv
      have HB := Lib.hid (prbodies_any (cap := cl) wr hil.texts (fun s hs => by have := secsB_len HS.out s hs; omega) (by rw [hlk]; omega))
      clear htk hlk hil
      go_wp2_with (go_at_call 30; refine HB.out.mono ?_; rintro _ w3 ⟨v3, rfl, o3, k3⟩; have HO3 := Lib.hid o3; have HV3 := Lib.hid (HO.out.keeps k3); have HK3 := Lib.hid (HK.out.trans k3); clear o3 k3)
      have HBZ := Lib.hid (secsB_bodies HS.out (by rw [HN.out]; exact hnb))
      obtain ⟨BD, hBD⟩ : ∃ X, bodies (secsB L) = X := ⟨_, rfl⟩
      unfold bodP at HO3
      rw [hBD] at HO3 HBZ
      have HBD := Lib.hid hBD
      clear hBD
      have hbz := HBZ.out
      obtain ⟨NB, hNB⟩ : ∃ NB, BD.length = NB := ⟨_, rfl⟩
      have HNB := Lib.hid hNB
      obtain ⟨a3, cap3, hv3, hi3, _⟩ := HO3.out.is
      rw [List.length_map, hNB] at hv3 hi3
      subst hv3
      rw [hNB] at hbz
      have HI3 := Lib.hid hi3
      clear hi3 hNB HBZ
      go_loopw [9, 10] (fun v i wr => peRel w3 count BD v i wr) (fun _ i _ => NB - (intOf i).toNat)
      case atStart => exact ⟨0, Nat.zero_le _, rfl, OwnE.nil _ _, Keeps.refl w3⟩
      case round =>
        obtain ⟨k, hk, rfl, ho, hkp⟩ := hrel
        rw [HNB.out] at hk
        have HPO := Lib.hid ho
        have HPK := Lib.hid hkp
        obtain ⟨a4, cap4, hv4, _, _⟩ := ho.is
        rw [pkF_length] at hv4
        subst hv4
        clear hkp ho
        by_cases hlt : k < NB
        · have hlI : (k : Int) < (NB : Int) := by omega
          have hkB : k < BD.length := by rw [HNB.out]; exact hlt
          obtain ⟨b3, off3, rfl, hb3, hc3⟩ := (HI3.out.keeps HPK.out).get (i := k) (by rw [List.length_map]; exact hkB)
          rw [List.getElem_map] at hc3
          have HX := Lib.hid (pkF_next (count := count) hkB)
          obtain ⟨⟨bst, bbd⟩, hb⟩ : ∃ x, BD[k] = x := ⟨_, rfl⟩
          rw [hb] at hc3 HX
          obtain ⟨Y, hY⟩ : ∃ Y, st bbd = Y := ⟨_, rfl⟩
          obtain ⟨cc, hcc⟩ : ∃ cc, (count + (k : Int)) % 16 = cc := ⟨_, rfl⟩
          have HXP := Lib.hid (show bdP count (bst, bbd) k = ⟨17, bst, cc, false, Y⟩ by unfold bdP; rw [hcc, hY])
          rw [HXP.out] at HX
          have HC1 := Lib.hid (fun W (q : Keeps wr W) => show W.cell? ⟨b3, off3 + k * 5 + 1, none⟩ = some (.bool bst) from (Below.cell q (p := ⟨b3, off3 + k * 5 + 1, none⟩) hb3).trans (hc3 1 _ rfl))
          have HC4 := Lib.hid (fun W (q : Keeps wr W) => show W.cell? ⟨b3, off3 + k * 5 + 4, none⟩ = some (.string Y) from (Below.cell q (p := ⟨b3, off3 + k * 5 + 4, none⟩) hb3).trans (by rw [← hY]; exact hc3 4 _ rfl))
          have htm : (count + (k : Int)).tmod 16 = cc := by rw [Int.tmod_eq_emod_of_nonneg (by omega)]; exact hcc
          have hcz : 0 ≤ cc ∧ cc ≤ 15 := by omega
          have wr1 := wrapI (a := (k : Int) + 1) (by omega) (by omega)
          have wr2 := wrapI (a := count + (k : Int)) (by omega) (by omega)
          have wr3 := wrapI (a := cc) (by omega) (by omega)
          clear hcc hY hb hc3 hb3
          obtain ⟨X, hX⟩ : ∃ X : Obj, X = .cells #[.int .i64 17, .bool bst, .int .i64 cc, .bool false, .string Y] 32 := ⟨_, rfl⟩
          have HXX := Lib.hid hX
          clear hX
          go_wp2
          refine wp_draw_tail 17 (by kernel_rfl) [.slice a4 k cap4, .slice (some ⟨b3, off3, none⟩) NB cap3, .int .i64 (k : Int), .pointer (some ⟨b3, off3 + k * 5, none⟩), .pointer (some ⟨b3, off3 + k * 5 + 1, none⟩), .bool bst, .int .i64 count, .int .i64 (k : Int), .int .i64 (count + (k : Int)), .int .i64 cc, .slice (some ⟨b3, off3, none⟩) NB cap3, .int .i64 (k : Int), .pointer (some ⟨b3, off3 + k * 5, none⟩), .pointer (some ⟨b3, off3 + k * 5 + 4, none⟩), .string Y, .agg #[.int .i64 17, .bool bst, .int .i64 cc, .bool false, .string Y], .slice (some ⟨wr.heap.size, 0, none⟩) 1 1]
            (Once 16 (Eqv wr) (Eqv (wr.alloc X))) rfl (by kernel_rfl) (by kernel_rfl) (fin := ?fin0) ?hfin0 (Once.start (Eqv.drew wr)) ?each0 ?hend0
          case hfin0 => simp [seqA, dstOf, Act.put]; rfl
          case each0 =>
            refine ⟨?_, ?_, ?_, ?_, ?_, ?_, ?_, ?_, ?_, ?_, ?_, ?_, ?_, ?_, ?_, ?_, ?_, trivial⟩
            all_goals intro L w5 h0 hd hs hw
            all_goals unfold Does
            all_goals try simp only [Nat.zero_add, Nat.reduceAdd] at h0
            rotate_left 16
            · have hA := hw.1 h0
              have hz := hA.size
              go_simp
              exact fun L' k => Once.done k (by rw [HXX.out]; exact hA.alloc _)
            all_goals have hke := once_kpt hw
            all_goals have c1 : w5.cell? ⟨b3, off3 + k * 5 + 1, none⟩ = some (.bool bst) := HC1.out w5 hke
            all_goals have c4 : w5.cell? ⟨b3, off3 + k * 5 + 4, none⟩ = some (.string Y) := HC4.out w5 hke
            all_goals go_simp
            all_goals exact fun L' k => hw.same (by decide) k
          case hend0 =>
          intro L w5 hL hw
          obtain ⟨w5, rfl, he⟩ := (hw.2 (hL 16 (by omega))).split
          clear hL hw
          rw [HXX.out, ← he.size]
          simp only [List.drop_succ_cons, List.drop_zero]
          have HO5 := Lib.hid (HPO.out.eqv he)
          have HK5 := Lib.hid (show Keeps w3 w5 from HPK.out.eqv he)
          clear he
          go_wp2_with (at_builtin; refine wp_pushE (T := pktT) rfl _ _ rfl ⟨17, bst, cc, false, Y⟩ #[.int .i64 17, .bool bst, .int .i64 cc, .bool false, .string Y] rfl w5.heap.size rfl HO5.out rfl rfl (by rw [pkF_length]; omega) (Below.size HK5.out) 32 ?_; intro v6 w6 o6 g6 _; have HO6 := Lib.hid o6; have HK6 := Lib.hid ((HK5.out.alloc (.cells #[.int .i64 17, .bool bst, .int .i64 cc, .bool false, .string Y] 32)).grown g6 HO5.out.block); clear o6 g6)
          go_roundw
          case rel => exact ⟨k + 1, by rw [HNB.out]; omega, by go_num, by rw [HX.out]; exact HO6.out, HK6.out⟩
          case measure => simp [intOf]; omega
        · have hlI : ¬ (k : Int) < (NB : Int) := by omega
          obtain rfl : k = NB := by omega
          go_wp2
          go_ret2
          exact ⟨_, _, rfl, HV3.out.keeps HPK.out, by rw [HBD.out, HNB.out]; exact HPO.out.lower (Below.size HK3.out), HK3.out.trans HPK.out⟩
end Go.Proofs.YtifbomppgflkfaaDoor
