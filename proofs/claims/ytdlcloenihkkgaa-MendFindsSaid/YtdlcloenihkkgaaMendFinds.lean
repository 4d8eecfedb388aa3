/-
  For any strings and any two lists of places MendFinds returns true: a word of which no more bytes are turned than there is room for, and those at lost places, too, is found again; nothing that was there is changed. No condition.
-/
import Derived.Test.YtdlcloenihkkgaaRows
import Derived.Test.YtdlcloenihkkgaaMendLaw
import Derived.Deep.RegionWith
import Derived.OpenShut
import Derived.ShutString
import Derived.ChangeOld
import Derived.Carry
import Derived.WalkLawsBesides
namespace Go.Proofs.Ytdlcloenihkkgaa.mendFinds
open Go.ChangeShapes Go.WideShapes Go.ChangeAt Go.RowKit Gf
set_option maxRecDepth 100000
open Go.ChangeMaps (open_string shut_string)
set_option linter.unusedVariables false
/-- The two lists of an argument, in the law's own block. -/
def two (a0 : Option Addr) (n0 c0 : Nat) (a1 : Option Addr) (n1 c1 : Nat) : Obj := .cells #[.slice a0 n0 c0, .slice a1 n1 c1] 31
set_option maxRecDepth 100000 in
set_option maxHeartbeats 4000000 in
theorem off (a0 a1 : Option Addr) (n0 c0 n1 c1 : Nat) (d u : ByteArray) (w : World) (h : 191 < (d.size : Int) ∨ ((d.size : Int) ≤ 191 ∧ 64 < (n0 : Int)) ∨ ((d.size : Int) ≤ 191 ∧ (n0 : Int) ≤ 64 ∧ 64 < (n1 : Int)) ∨ ((d.size : Int) ≤ 191 ∧ (n0 : Int) ≤ 64 ∧ (n1 : Int) ≤ 64 ∧ 255 < (u.size : Int))) :
    Calls Try.prog 4 #[.string d, .agg #[.slice a0 n0 c0, .slice a1 n1 c1], .string u] w fun e w' => e = .returned (.bool true) ∧ Keeps w w' := by
  rcases h with h | ⟨h1, h⟩ | ⟨h1, h2, h⟩ | ⟨h1, h2, h3, h⟩
  all_goals
    go_enter Try.func4, Try.ntmps4
    go_wp2_with fail
    refine (awake4_any w _ ((Keeps.refl w).alloc _)).mono ?_
    rintro e wk1 ⟨rfl, hk1⟩
    go_wp2
    go_ret
    exact ⟨rfl, hk1⟩
set_option maxRecDepth 100000 in
set_option maxHeartbeats 4000000 in
theorem offP (a0 a1 : Option Addr) (n0 c0 n1 c1 : Nat) (l0 : List Int) (d u : ByteArray) (w : World) (hr : IsI w a0 n0 l0) (h0 : (d.size : Int) ≤ 191) (h1 : (n0 : Int) ≤ 64) (h2 : (n1 : Int) ≤ 64) (h3 : (u.size : Int) ≤ 255) (hok : ¬ OkP l0 l0.length) :
    Calls Try.prog 4 #[.string d, .agg #[.slice a0 n0 c0, .slice a1 n1 c1], .string u] w fun e w' => e = .returned (.bool true) ∧ Keeps w w' := by
  have HB := Lib.hid (places_no hok)
  have HR := Lib.hid hr
  clear hok hr
  go_enter Try.func4, Try.ntmps4
  go_wp2_with fail
  refine (rplaces_any a0 n0 c0 l0 _ (HR.out.kept ((Keeps.refl w).alloc _)) (by omega)).mono ?_
  rintro e w1 ⟨rfl, he1⟩
  rw [HB.out]
  go_wp2_with fail
  refine (awake4_any w w1 (((Keeps.refl w).alloc _).eqv he1)).mono ?_
  rintro e wk1 ⟨rfl, hk1⟩
  go_wp2
  go_ret
  exact ⟨rfl, hk1⟩
theorem isI_only {W W' : World} {a : Option Addr} {n b : Nat} {l : List Int} (h : IsI W a n l) (k : Only b W W') (hb : ∀ g of, a = some ⟨g, of, none⟩ → g ≠ b) : IsI W' a n l :=
  ⟨h.1, fun h0 => by
    obtain ⟨g, of, e, hg, hc⟩ := h.2 h0
    exact ⟨g, of, e, Nat.lt_of_lt_of_le hg k.size, fun i hi => (k.cell (p := ⟨g, of + i, none⟩) hg (hb g of e)).trans (hc i hi)⟩⟩
def f1Rel (wB : World) (l0 : List Int) (room : Int) (v i : Value) (wr : World) : Prop :=
  ∃ (k : Nat) (O : List Int), O.length ≤ k ∧ (k : Int) ≤ room ∧ i = .int .i64 (k : Int) ∧ (∀ x ∈ O, 0 ≤ x ∧ x ≤ 254) ∧ OwnI wr wB.heap.size v (l0 ++ O) ∧ Keeps wB wr
def f2Rel (wC : World) (b : Nat) (v : List UInt8) (A : List Int) (i : Value) (wr : World) : Prop :=
  ∃ (k : Nat) (r : List UInt8), k ≤ A.length ∧ i = .int .i64 (k : Int) ∧ r.length = 255 ∧ (∀ j : Nat, (j : Int) ∉ A → cf r j = cf v j) ∧ Blk b r wr ∧ Only b wC wr
set_option maxRecDepth 100000 in
set_option maxHeartbeats 4000000 in
theorem core (a0 a1 : Option Addr) (n0 c0 n1 c1 : Nat) (l0 l1 : List Int) (d u : ByteArray) (w : World) (hr : IsI w a0 n0 l0) (hr1 : IsI w a1 n1 l1) (h0 : (d.size : Int) ≤ 191) (h1 : (n0 : Int) ≤ 64) (h2 : (n1 : Int) ≤ 64) (h3 : (u.size : Int) ≤ 255) (hok : OkP l0 l0.length) :
    Calls Try.prog 4 #[.string d, .agg #[.slice a0 n0 c0, .slice a1 n1 c1], .string u] w fun e w' => e = .returned (.bool true) ∧ Keeps w w' := by
  have HB := Lib.hid (places_yes hok)
  have hst := st_toList
  have HOK := Lib.hid hok
  have HR := Lib.hid hr
  have HR1 := Lib.hid hr1
  clear hok hr hr1
  have HF1 := Lib.hid (show (st (ls d ++ z8 (191 - d.size))).size = 191 by rw [st_size, List.length_append, z8_len, ← ls_size]; omega)
  go_enter Try.func4, Try.ntmps4
  go_wp2_with fail
  refine (rplaces_any a0 n0 c0 l0 _ (HR.out.kept ((Keeps.refl w).alloc _)) (by omega)).mono ?_
  rintro e w1 ⟨rfl, he1⟩
  rw [HB.out]
  have hk0 := ((Keeps.refl w).alloc (.cells #[.slice a0 n0 c0, .slice a1 n1 c1] 31)).eqv he1
  clear he1
  go_wp2_with fail
  refine (full_any w _ 191 _ (by omega) (by omega) hk0).mono ?_
  rintro e wk1 ⟨rfl, hk1⟩
  clear hk0
  go_wp2_with fail
  refine (word_any w _ _ HF1.out hk1).mono ?_
  rintro e wk2 ⟨p, rfl, hp, hw1, hk2⟩
  clear hk1
  obtain ⟨v, hv⟩ : ∃ v, ls (st (ls d ++ z8 (191 - d.size))) ++ p = v := ⟨_, rfl⟩
  rw [hv] at hw1
  rw [show (fun p => ls (st (ls d ++ z8 (191 - d.size))) ++ p) p = v from hv]
  have hvl := hw1.1
  have HW := Lib.hid hw1
  have e1 : (st v).size = 255 := by rw [st_size]; exact hvl
  have hcb := Lib.run_convert_string_bytes (P := Try.prog) wk2 9 34 5 (st v) Try.underlying9 Try.underlying34 Try.underlying5
  rw [e1] at hcb
  have HBK := Lib.hid (show Blk wk2.heap.size v (Lib.bytesWorld wk2 5 (st v)) by have := Blk.bytes wk2 (st v); rwa [ls_st] at this)
  have HKB := Lib.hid (hk2.trans (Lib.bytesWorld_below wk2 5 (st v)))
  have hsz0 := Below.size hk2
  obtain ⟨cb, hcbE⟩ : ∃ cb, grownCap wk2 255 0 5 = cb := ⟨_, rfl⟩
  have hcb2 : 255 ≤ cb := by rw [← hcbE]; exact grownCap_ge _ _ _ _
  rw [hcbE] at hcb
  obtain ⟨wB, hwB⟩ : ∃ wB, Lib.bytesWorld wk2 5 (st v) = wB := ⟨_, rfl⟩
  rw [hwB] at hcb HBK HKB
  clear hv hw1 hp hk2 hwB hcbE
  go_wp2_with fail
  refine (rroom_any (n0 : Int) wB).mono ?_
  rintro e w2 ⟨rfl, rfl⟩
  obtain ⟨b, hb⟩ : ∃ b, wk2.heap.size = b := ⟨_, rfl⟩
  rw [hb] at HBK hsz0
  rw [hb]
  clear hcb
  have hbB := HBK.out.old
  have HL0 := Lib.hid HR.out.1
  have HL1 := Lib.hid HR1.out.1
  have HI0 := Lib.hid (HR.out.kept HKB.out)
  have HI1 := Lib.hid (HR1.out.kept HKB.out)
  have hroom : 0 ≤ roomZ (n0 : Int) ∧ roomZ (n0 : Int) ≤ 32 := by unfold roomZ; rw [if_neg (by omega)]; omega
  obtain ⟨RM, hRM⟩ : ∃ RM, roomZ (n0 : Int) = RM := ⟨_, rfl⟩
  rw [hRM] at hroom
  rw [hRM]
  obtain ⟨hr0, hr32⟩ := hroom
  have hll0 : l0.length ≤ 1000000000 := by rw [HL0.out]; omega
  go_wp2_with (at_builtin; refine wp_catN rfl _ _ rfl (w0 := wB) rfl rfl HI0.out hll0 (Keeps.refl wB) ?_; intro v2 w3 hown2 hkp2)
  clear hll0
  go_loopw [13, 14] (fun vv i wr => f1Rel wB l0 RM vv i wr) (fun _ i _ => 64 - (intOf i).toNat)
  case atStart => exact ⟨0, [], Nat.le_refl _, by omega, rfl, (fun x hx => by cases hx), by rw [List.append_nil]; exact hown2, hkp2⟩
  case round =>
    obtain ⟨k, O, hOk, hkR, rfl, hO, hown, hkp⟩ := hrel
    have HO := Lib.hid hO
    have HOL := Lib.hid hOk
    have HOW := Lib.hid hown
    have HKP := Lib.hid hkp
    have hol : (l0 ++ O).length ≤ 1000000000 := by rw [List.length_append, HL0.out]; omega
    clear hO hown hkp
    by_cases hlt : (k : Int) < (n1 : Int) ∧ (k : Int) < RM
    · obtain ⟨hk1, hk2⟩ := hlt
      obtain ⟨b1, of1, rfl, hb1, hc1⟩ := (HI1.out.kept HKP.out).2 (by omega)
      have hck := hc1 k (by omega)
      obtain ⟨x, hx⟩ : ∃ x, l1.getD k 0 = x := ⟨_, rfl⟩
      rw [hx] at hck
      clear hc1 hx
      by_cases hx0 : 0 ≤ x ∧ x < 255
      · obtain ⟨x0, x1⟩ := hx0
        go_wp2_with (at_builtin; refine wp_pushI rfl _ _ rfl x HOW.out rfl rfl hol HKP.out ?_; intro v3 w4 hown3 hkp3)
        go_roundw
        case rel =>
          refine ⟨k + 1, O ++ [x], ?_, by omega, by go_num, ?_, by rw [← List.append_assoc]; exact hown3, hkp3⟩
          · rw [List.length_append]; have := HOL.out; simp; omega
          · intro y hy
            rcases List.mem_append.1 hy with hy | hy
            · exact HO.out y hy
            · rw [List.mem_singleton] at hy; omega
        case measure => simp [intOf]; omega
      · by_cases hx1 : 0 ≤ x
        · have hx2 : 255 ≤ x := by omega
          clear hx0
          go_wp2
          go_roundw
          case rel => exact ⟨k + 1, O, by have := HOL.out; omega, by omega, by go_num, HO.out, HOW.out, HKP.out⟩
          case measure => simp [intOf]; omega
        · have hx2 : x < 0 := by omega
          clear hx0 hx1
          go_wp2
          go_roundw
          case rel => exact ⟨k + 1, O, by have := HOL.out; omega, by omega, by go_num, HO.out, HOW.out, HKP.out⟩
          case measure => simp [intOf]; omega
    · have HON := Lib.hid (show (O.length : Int) ≤ roomZ l0.length by rw [HL0.out, hRM]; have := HOL.out; omega)
      have HAM := Lib.hid (show ∀ x ∈ l0 ++ O, 0 ≤ x ∧ x ≤ 254 from fun x hx => by
        rcases List.mem_append.1 hx with hx | hx
        · exact okp_mem HOK.out hx
        · exact HO.out x hx)
      have HFN := Lib.hid (fun (r : List UInt8) (h : ∀ j : Nat, (j : Int) ∉ l0 ++ O → cf r j = cf v j) => find_near HW.out HON.out h)
      have hAl : (l0 ++ O).length ≤ 1000 := by rw [List.length_append, HL0.out]; have := HOL.out; omega
      obtain ⟨A, hA⟩ : ∃ A, l0 ++ O = A := ⟨_, rfl⟩
      rw [hA] at HAM HOW hAl
      simp only [hA] at HFN
      have HBW := Lib.hid (HBK.out.below (show Below wB.heap.size wB wr from HKP.out))
      have HKW := Lib.hid (HKB.out.over HKP.out)
      have HOB := Lib.hid (show ∀ g, u13.ownBlock = some g → g ≠ b from fun g e => by have := HOW.out.block g e; omega)
      obtain ⟨aA, cA, hvA, hiA⟩ := HOW.out.isI
      subst hvA
      have HIA := Lib.hid hiA
      have HGB := Lib.hid (show ∀ g of, aA = some ⟨g, of, none⟩ → g ≠ b from fun g of e => HOB.out g (by subst e; rfl))
      obtain ⟨nA, hnA⟩ : ∃ nA, A.length = nA := ⟨_, rfl⟩
      rw [hnA] at hAl HIA
      rw [hnA]
      clear hA hiA HOW HOB hol hkR hnA
      have hex : (n1 : Int) ≤ (k : Int) ∨ ((k : Int) < (n1 : Int) ∧ RM ≤ (k : Int)) := by omega
      clear hlt
      rcases hex with hex | ⟨hex, hex2⟩
      · go_wp2
        go_loopw [15] (fun i wx => f2Rel wr b v A i wx) (fun i _ => nA - (intOf i).toNat)
        case atStart => exact ⟨0, v, Nat.zero_le _, rfl, hvl, (fun _ _ => rfl), HBW.out, Only.refl _ _⟩
        case round =>
          obtain ⟨q, r, hq, rfl, hrl, hcf, hblk, hon⟩ := hrel
          have HL := Lib.hid HIA.out.1
          rw [HL.out] at hq
          have HCF := Lib.hid hcf
          have HBL := Lib.hid hblk
          have HON2 := Lib.hid hon
          have HIX := Lib.hid (isI_only HIA.out hon HGB.out)
          clear hcf hblk hon
          by_cases hqn : q < nA
          · obtain ⟨g, of, rfl, hg, hcg⟩ := HIX.out.2 (by omega)
            have hcq := hcg q hqn
            have hmem := HAM.out (A.getD q 0) (getD_mem (by rw [HL.out]; exact hqn))
            have HMA := Lib.hid (getD_mem (l := A) (k := q) (by rw [HL.out]; exact hqn))
            obtain ⟨m, hm⟩ : ∃ m : Nat, A.getD q 0 = (m : Int) := ⟨(A.getD q 0).toNat, by omega⟩
            rw [hm] at hcq hmem HMA
            have hm255 : m < 255 := by omega
            have hqi : (q : Int) < (nA : Int) := by omega
            clear hcg hm hmem
            by_cases hmu : m < u.size
            · have hgv := ls_get (st v) m (by rw [e1]; exact hm255)
              rw [ls_st] at hgv
              have hgu := ls_get u m hmu
              obtain ⟨c1', hc1'⟩ : ∃ c, cf v m = c := ⟨_, rfl⟩
              obtain ⟨c2', hc2'⟩ : ∃ c, cf (ls u) m = c := ⟨_, rfl⟩
              rw [hc1'] at hgv
              rw [hc2'] at hgu
              obtain ⟨z, hz⟩ : ∃ z, c1' ^^^ c2' = z := ⟨_, rfl⟩
              have hbx : bits BinOp.xor IntKind.u8 (c1'.toNat : Int) (c2'.toNat : Int) = (z.toNat : Int) := by
                rw [← hz, ← xr8]; exact xr_bits (byte8 _) (byte8 _)
              have hmui : (m : Int) < (u.size : Int) := by omega
              have hm255i : (m : Int) < 255 := by omega
              have hmvi : (m : Int) < ((st v).size : Int) := by omega
              have hcm := HBL.out.cell m (by rw [hrl]; exact hm255)
              have hfm := HBL.out.free m (by rw [hrl]; exact hm255)
              obtain ⟨ad, had⟩ : ∃ ad : Addr, ad = ⟨b, m, none⟩ := ⟨_, rfl⟩
              have HAD := Lib.hid had
              clear hc1' hc2' hz had
              go_wp2
              refine wp_draw (by kernel_rfl)
                [.slice (some ⟨b, 0, none⟩) 255 cb, .slice (some ⟨g, of, none⟩) nA cA, .int .i64 (q : Int), .pointer (some ⟨g, of + q, none⟩), .int .i64 (m : Int), .string (st v), .slice (some ⟨g, of, none⟩) nA cA, .int .i64 (q : Int), .pointer (some ⟨g, of + q, none⟩), .int .i64 (m : Int), .int .u8 (c1'.toNat : Int),
                  .string u, .slice (some ⟨g, of, none⟩) nA cA, .int .i64 (q : Int), .pointer (some ⟨g, of + q, none⟩), .int .i64 (m : Int), .int .u8 (c2'.toNat : Int), .int .u8 (z.toNat : Int), .pointer (some ⟨b, m, none⟩), undef]
                (Once 19 (Eqv wr) (Eqv (wr.setCell ad (.int .u8 (z.toNat : Int)))))
                rfl (by kernel_rfl) (fin := ?finP) ?hfinP (Once.start (Eqv.drew wr)) ?eachP ?hendP
              case hfinP => simp [seqA, dstOf, Act.put]; rfl
              case eachP =>
                refine ⟨?_, ?_, ?_, ?_, ?_, ?_, ?_, ?_, ?_, ?_, ?_, ?_, ?_, ?_, ?_, ?_, ?_, ?_, ?_, ?_, trivial⟩
                all_goals intro L w5 hq0 hd hs hw
                all_goals unfold Does
                all_goals try simp only [Nat.zero_add, Nat.reduceAdd] at hq0
                · go_simp; exact fun L' k => hw.same (by decide) k
                · go_simp; exact fun L' k => hw.same (by decide) k
                · go_simp; exact fun L' k => hw.same (by decide) k
                · go_simp; exact fun L' k => hw.same (by decide) k
                · have hcx := ((hw.1 (hs.no (by kernel_rfl) hq0)).cell _).trans hcq
                  go_simp; exact fun L' k => hw.same (by decide) k
                · go_simp; exact fun L' k => hw.same (by decide) k
                · go_simp; exact fun L' k => hw.same (by decide) k
                · go_simp; exact fun L' k => hw.same (by decide) k
                · go_simp; exact fun L' k => hw.same (by decide) k
                · have hcx := ((hw.1 (hs.no (by kernel_rfl) hq0)).cell _).trans hcq
                  go_simp; exact fun L' k => hw.same (by decide) k
                · go_simp; exact fun L' k => hw.same (by decide) k
                · go_simp; exact fun L' k => hw.same (by decide) k
                · go_simp; exact fun L' k => hw.same (by decide) k
                · go_simp; exact fun L' k => hw.same (by decide) k
                · go_simp; exact fun L' k => hw.same (by decide) k
                · have hcx := ((hw.1 (hs.no (by kernel_rfl) hq0)).cell _).trans hcq
                  go_simp; exact fun L' k => hw.same (by decide) k
                · go_simp; exact fun L' k => hw.same (by decide) k
                · go_simp; exact fun L' k => hw.same (by decide) k
                · go_simp; exact fun L' k => hw.same (by decide) k
                · have hA := hw.1 hq0
                  have hcx := (hA.cell _).trans hcm
                  have hfx := (hA.frozen _).trans hfm
                  go_simp
                  exact fun L' k => Once.done k (by rw [HAD.out]; exact hA.setCell _ _)
              case hendP =>
                intro L w5 hL hw
                have hC := hw.2 (hL 19 (by simp))
                clear hw hL
                have had := HAD.out
                subst had
                have HB5 := Lib.hid ((HBL.out.set (k := m) (by rw [hrl]; exact hm255) z).eqv hC)
                have HO5 := Lib.hid (HON2.out.trans ((Only.setCell wr ⟨b, m, none⟩ _).trans (Only.eqv hC)))
                clear hC
                go_wp2
                go_roundw
                case rel =>
                  refine ⟨q + 1, r.set m z, by rw [HL.out]; omega, by go_num, by rw [List.length_set]; exact hrl, fun j hj => ?_, HB5.out, HO5.out⟩
                  rw [cf_set _ _ _ (by rw [hrl]; exact hm255), if_neg (fun e => hj (by rw [e]; exact HMA.out))]
                  exact HCF.out j hj
                case measure => simp [intOf]; omega
            · have hmui : (u.size : Int) ≤ (m : Int) := by omega
              go_wp2
              go_roundw
              case rel => exact ⟨q + 1, r, by rw [HL.out]; omega, by go_num, hrl, HCF.out, HBL.out, HON2.out⟩
              case measure => simp [intOf]; omega
          · have hqi : (nA : Int) ≤ (q : Int) := by omega
            have hcv := HBL.out.whole cb (n := 255) hrl.symm
            have HNR := Lib.hid (HFN.out r HCF.out)
            have HKX := Lib.hid (HON2.out.keeps HKW.out hsz0)
            have HIL := Lib.hid (HR.out.kept HKX.out)
            have hrs : (st r).size ≤ 1000 := by rw [st_size, hrl]; omega
            have her : (st r).size = 255 := by rw [st_size, hrl]
            have hxt : (st v).extract 0 191 = st (v.take 191) := by
              have h := ls_extract (st v) 191
              rw [ls_st] at h
              rw [← h, st_ls]
            obtain ⟨PS, hPS⟩ : ∃ PS, unlAll r v = PS := ⟨_, rfl⟩
            have hpl : PS.length ≤ 255 := by rw [← hPS]; have := unlAll_length r v; omega
            have hib : intsB PS PS = true := decide_eq_true rfl
            go_wp2_with fail
            refine (mword_any (st r) a0 n0 c0 l0 wr HIL.out hrs (by omega)).mono ?_
            rintro e w6 ⟨r1, ps1, er1, aw, nw, cw, rfl, hm1, hi1, hk6⟩
            rw [ls_st] at hm1
            obtain ⟨x1, x2, x3⟩ := hm1.found hrl HOK.out HNR.out
            rw [x2, hPS] at hi1
            have HNW := Lib.hid hi1.1
            rw [x1, x3]
            clear hm1 x1 x2 x3
            go_wp2_with fail
            refine (mdata_any (st r) a0 n0 c0 l0 w6 (HIL.out.kept hk6) hrs (by omega)).mono ?_
            rintro e w7 ⟨r1, ps1, er1, rfl, hm1, hk7⟩
            rw [ls_st] at hm1
            obtain ⟨x1, x2, x3⟩ := hm1.found hrl HOK.out HNR.out
            rw [x1, x3]
            clear hm1 x1 x2 x3
            go_wp2_with fail
            refine (runlike_any (st r) (st v) w7 (by omega) (by rw [e1, her]; omega)).mono ?_
            rintro e w8 ⟨uv, rfl, hown8, hk8⟩
            rw [ls_st, ls_st, hPS] at hown8
            obtain ⟨au, cu, rfl, hiu⟩ := hown8.isI
            have HIU := Lib.hid hiu
            have HIW := Lib.hid ((hi1.kept hk7).kept hk8)
            have HK8 := Lib.hid (((HKX.out.over hk6).over hk7).over hk8)
            obtain ⟨np, hnp⟩ : ∃ np, PS.length = np := ⟨_, rfl⟩
            rw [hnp] at HIU hpl HNW
            rw [hnp]
            have hnw : nw = np := HNW.out.symm
            subst hnw
            clear hown8 hiu hi1 hk6 hk7 hk8 hnp
            go_wp2_with fail
            refine (ints_any aw au nw cw nw cu PS PS w8 HIW.out HIU.out (by omega) (by omega)).mono ?_
            rintro e w9 ⟨rfl, he9⟩
            rw [hib]
            go_wp2_with fail
            refine (awake4_any w w9 (HK8.out.eqv he9)).mono ?_
            rintro e wk3 ⟨rfl, hk3⟩
            go_wp2
            go_ret
            exact ⟨rfl, hk3⟩
      · go_wp2
        go_loopw [15] (fun i wx => f2Rel wr b v A i wx) (fun i _ => nA - (intOf i).toNat)
        case atStart => exact ⟨0, v, Nat.zero_le _, rfl, hvl, (fun _ _ => rfl), HBW.out, Only.refl _ _⟩
        case round =>
          obtain ⟨q, r, hq, rfl, hrl, hcf, hblk, hon⟩ := hrel
          have HL := Lib.hid HIA.out.1
          rw [HL.out] at hq
          have HCF := Lib.hid hcf
          have HBL := Lib.hid hblk
          have HON2 := Lib.hid hon
          have HIX := Lib.hid (isI_only HIA.out hon HGB.out)
          clear hcf hblk hon
          by_cases hqn : q < nA
          · obtain ⟨g, of, rfl, hg, hcg⟩ := HIX.out.2 (by omega)
            have hcq := hcg q hqn
            have hmem := HAM.out (A.getD q 0) (getD_mem (by rw [HL.out]; exact hqn))
            have HMA := Lib.hid (getD_mem (l := A) (k := q) (by rw [HL.out]; exact hqn))
            obtain ⟨m, hm⟩ : ∃ m : Nat, A.getD q 0 = (m : Int) := ⟨(A.getD q 0).toNat, by omega⟩
            rw [hm] at hcq hmem HMA
            have hm255 : m < 255 := by omega
            have hqi : (q : Int) < (nA : Int) := by omega
            clear hcg hm hmem
            by_cases hmu : m < u.size
            · have hgv := ls_get (st v) m (by rw [e1]; exact hm255)
              rw [ls_st] at hgv
              have hgu := ls_get u m hmu
              obtain ⟨c1', hc1'⟩ : ∃ c, cf v m = c := ⟨_, rfl⟩
              obtain ⟨c2', hc2'⟩ : ∃ c, cf (ls u) m = c := ⟨_, rfl⟩
              rw [hc1'] at hgv
              rw [hc2'] at hgu
              obtain ⟨z, hz⟩ : ∃ z, c1' ^^^ c2' = z := ⟨_, rfl⟩
              have hbx : bits BinOp.xor IntKind.u8 (c1'.toNat : Int) (c2'.toNat : Int) = (z.toNat : Int) := by
                rw [← hz, ← xr8]; exact xr_bits (byte8 _) (byte8 _)
              have hmui : (m : Int) < (u.size : Int) := by omega
              have hm255i : (m : Int) < 255 := by omega
              have hmvi : (m : Int) < ((st v).size : Int) := by omega
              have hcm := HBL.out.cell m (by rw [hrl]; exact hm255)
              have hfm := HBL.out.free m (by rw [hrl]; exact hm255)
              obtain ⟨ad, had⟩ : ∃ ad : Addr, ad = ⟨b, m, none⟩ := ⟨_, rfl⟩
              have HAD := Lib.hid had
              clear hc1' hc2' hz had
              go_wp2
              refine wp_draw (by kernel_rfl)
                [.slice (some ⟨b, 0, none⟩) 255 cb, .slice (some ⟨g, of, none⟩) nA cA, .int .i64 (q : Int), .pointer (some ⟨g, of + q, none⟩), .int .i64 (m : Int), .string (st v), .slice (some ⟨g, of, none⟩) nA cA, .int .i64 (q : Int), .pointer (some ⟨g, of + q, none⟩), .int .i64 (m : Int), .int .u8 (c1'.toNat : Int),
                  .string u, .slice (some ⟨g, of, none⟩) nA cA, .int .i64 (q : Int), .pointer (some ⟨g, of + q, none⟩), .int .i64 (m : Int), .int .u8 (c2'.toNat : Int), .int .u8 (z.toNat : Int), .pointer (some ⟨b, m, none⟩), undef]
                (Once 19 (Eqv wr) (Eqv (wr.setCell ad (.int .u8 (z.toNat : Int)))))
                rfl (by kernel_rfl) (fin := ?finQ) ?hfinQ (Once.start (Eqv.drew wr)) ?eachQ ?hendQ
              case hfinQ => simp [seqA, dstOf, Act.put]; rfl
              case eachQ =>
                refine ⟨?_, ?_, ?_, ?_, ?_, ?_, ?_, ?_, ?_, ?_, ?_, ?_, ?_, ?_, ?_, ?_, ?_, ?_, ?_, ?_, trivial⟩
                all_goals intro L w5 hq0 hd hs hw
                all_goals unfold Does
                all_goals try simp only [Nat.zero_add, Nat.reduceAdd] at hq0
                · go_simp; exact fun L' k => hw.same (by decide) k
                · go_simp; exact fun L' k => hw.same (by decide) k
                · go_simp; exact fun L' k => hw.same (by decide) k
                · go_simp; exact fun L' k => hw.same (by decide) k
                · have hcx := ((hw.1 (hs.no (by kernel_rfl) hq0)).cell _).trans hcq
                  go_simp; exact fun L' k => hw.same (by decide) k
                · go_simp; exact fun L' k => hw.same (by decide) k
                · go_simp; exact fun L' k => hw.same (by decide) k
                · go_simp; exact fun L' k => hw.same (by decide) k
                · go_simp; exact fun L' k => hw.same (by decide) k
                · have hcx := ((hw.1 (hs.no (by kernel_rfl) hq0)).cell _).trans hcq
                  go_simp; exact fun L' k => hw.same (by decide) k
                · go_simp; exact fun L' k => hw.same (by decide) k
                · go_simp; exact fun L' k => hw.same (by decide) k
                · go_simp; exact fun L' k => hw.same (by decide) k
                · go_simp; exact fun L' k => hw.same (by decide) k
                · go_simp; exact fun L' k => hw.same (by decide) k
                · have hcx := ((hw.1 (hs.no (by kernel_rfl) hq0)).cell _).trans hcq
                  go_simp; exact fun L' k => hw.same (by decide) k
                · go_simp; exact fun L' k => hw.same (by decide) k
                · go_simp; exact fun L' k => hw.same (by decide) k
                · go_simp; exact fun L' k => hw.same (by decide) k
                · have hA := hw.1 hq0
                  have hcx := (hA.cell _).trans hcm
                  have hfx := (hA.frozen _).trans hfm
                  go_simp
                  exact fun L' k => Once.done k (by rw [HAD.out]; exact hA.setCell _ _)
              case hendQ =>
                intro L w5 hL hw
                have hC := hw.2 (hL 19 (by simp))
                clear hw hL
                have had := HAD.out
                subst had
                have HB5 := Lib.hid ((HBL.out.set (k := m) (by rw [hrl]; exact hm255) z).eqv hC)
                have HO5 := Lib.hid (HON2.out.trans ((Only.setCell wr ⟨b, m, none⟩ _).trans (Only.eqv hC)))
                clear hC
                go_wp2
                go_roundw
                case rel =>
                  refine ⟨q + 1, r.set m z, by rw [HL.out]; omega, by go_num, by rw [List.length_set]; exact hrl, fun j hj => ?_, HB5.out, HO5.out⟩
                  rw [cf_set _ _ _ (by rw [hrl]; exact hm255), if_neg (fun e => hj (by rw [e]; exact HMA.out))]
                  exact HCF.out j hj
                case measure => simp [intOf]; omega
            · have hmui : (u.size : Int) ≤ (m : Int) := by omega
              go_wp2
              go_roundw
              case rel => exact ⟨q + 1, r, by rw [HL.out]; omega, by go_num, hrl, HCF.out, HBL.out, HON2.out⟩
              case measure => simp [intOf]; omega
          · have hqi : (nA : Int) ≤ (q : Int) := by omega
            have hcv := HBL.out.whole cb (n := 255) hrl.symm
            have HNR := Lib.hid (HFN.out r HCF.out)
            have HKX := Lib.hid (HON2.out.keeps HKW.out hsz0)
            have HIL := Lib.hid (HR.out.kept HKX.out)
            have hrs : (st r).size ≤ 1000 := by rw [st_size, hrl]; omega
            have her : (st r).size = 255 := by rw [st_size, hrl]
            have hxt : (st v).extract 0 191 = st (v.take 191) := by
              have h := ls_extract (st v) 191
              rw [ls_st] at h
              rw [← h, st_ls]
            obtain ⟨PS, hPS⟩ : ∃ PS, unlAll r v = PS := ⟨_, rfl⟩
            have hpl : PS.length ≤ 255 := by rw [← hPS]; have := unlAll_length r v; omega
            have hib : intsB PS PS = true := decide_eq_true rfl
            go_wp2_with fail
            refine (mword_any (st r) a0 n0 c0 l0 wr HIL.out hrs (by omega)).mono ?_
            rintro e w6 ⟨r1, ps1, er1, aw, nw, cw, rfl, hm1, hi1, hk6⟩
            rw [ls_st] at hm1
            obtain ⟨x1, x2, x3⟩ := hm1.found hrl HOK.out HNR.out
            rw [x2, hPS] at hi1
            have HNW := Lib.hid hi1.1
            rw [x1, x3]
            clear hm1 x1 x2 x3
            go_wp2_with fail
            refine (mdata_any (st r) a0 n0 c0 l0 w6 (HIL.out.kept hk6) hrs (by omega)).mono ?_
            rintro e w7 ⟨r1, ps1, er1, rfl, hm1, hk7⟩
            rw [ls_st] at hm1
            obtain ⟨x1, x2, x3⟩ := hm1.found hrl HOK.out HNR.out
            rw [x1, x3]
            clear hm1 x1 x2 x3
            go_wp2_with fail
            refine (runlike_any (st r) (st v) w7 (by omega) (by rw [e1, her]; omega)).mono ?_
            rintro e w8 ⟨uv, rfl, hown8, hk8⟩
            rw [ls_st, ls_st, hPS] at hown8
            obtain ⟨au, cu, rfl, hiu⟩ := hown8.isI
            have HIU := Lib.hid hiu
            have HIW := Lib.hid ((hi1.kept hk7).kept hk8)
            have HK8 := Lib.hid (((HKX.out.over hk6).over hk7).over hk8)
            obtain ⟨np, hnp⟩ : ∃ np, PS.length = np := ⟨_, rfl⟩
            rw [hnp] at HIU hpl HNW
            rw [hnp]
            have hnw : nw = np := HNW.out.symm
            subst hnw
            clear hown8 hiu hi1 hk6 hk7 hk8 hnp
            go_wp2_with fail
            refine (ints_any aw au nw cw nw cu PS PS w8 HIW.out HIU.out (by omega) (by omega)).mono ?_
            rintro e w9 ⟨rfl, he9⟩
            rw [hib]
            go_wp2_with fail
            refine (awake4_any w w9 (HK8.out.eqv he9)).mono ?_
            rintro e wk3 ⟨rfl, hk3⟩
            go_wp2
            go_ret
            exact ⟨rfl, hk3⟩
theorem walk (d : ByteArray) (wd : d.size ≤ maxLen) (a0 : Option Addr) (n0 c0 : Nat) (l0 : List Int) (a1 : Option Addr) (n1 c1 : Nat) (l1 : List Int) (w : World) (hr : IsA w a0 n0 c0 l0) (hr1 : IsA w a1 n1 c1 l1) (u : ByteArray) (wu : u.size ≤ maxLen) :
    Calls Try.prog 4 #[.string d, .agg #[.slice a0 n0 c0, .slice a1 n1 c1], .string u] w fun e w' => e = .returned (.bool true) ∧ Below w.heap.size w w' := by
  by_cases h : (d.size : Int) ≤ 191 ∧ (n0 : Int) ≤ 64 ∧ (n1 : Int) ≤ 64 ∧ (u.size : Int) ≤ 255
  · by_cases hok : OkP l0 l0.length
    · exact core a0 a1 n0 c0 n1 c1 l0 l1 d u w hr.1 hr1.1 h.1 h.2.1 h.2.2.1 h.2.2.2 hok
    · exact offP a0 a1 n0 c0 n1 c1 l0 d u w hr.1 h.1 h.2.1 h.2.2.1 h.2.2.2 hok
  · exact off a0 a1 n0 c0 n1 c1 d u w (by omega)

theorem own : ownKnob Try.prog.godebug = none := by kernel_rfl
theorem laidOut : laidOutB Try.prog = true := by kernel_rfl
set_option maxRecDepth 100000 in
theorem lifted (os : Os) (started : os.Started) (H : Type) (enc : TypeId × Value → H) :
    ReturnsInHanded {} Try.checked os 4 .any (Rows.mendFindsSpec.pre6 enc Try.prog Try.f4 Rows.mendFindsRow.domain false) (Rows.mendFindsSpec.post enc Try.prog Try.f4 false true false false) := by
  refine returnsInHanded_of_change (C := Try.checked) own started (by kernel_rfl) Try.func4
    (ChangeSpec.witness6 (enc := enc) (C := Try.checked) false ⟨#[], #[.string ByteArray.empty, .agg #[.slice none 0 0, .slice none 0 0], .string ByteArray.empty], []⟩ 8 (by kernel_rfl) (by kernel_rfl) (by kernel_rfl) (by kernel_rfl)) ?_
  intro W base args ds gs before hval0 hW hcnd _
  have hval : ∀ (j : Nat) t v, Try.f4.params[j]? = some t → args[j]? = some v → Value.okWide Try.prog W .any base t v := hval0
  have hW' := hW
  obtain ⟨p, q, hA0, hV, rfl, hfz, hnd⟩ := hW
  have hA : DataW.TrodAll enc Try.prog W 0 (fun _ => true) true Try.f4.params.toList args.toList ds p := hA0
  rw [Try.params4] at hA hval
  obtain ⟨v0, vs0, d0, ds0, p0, q0, hargs, rfl, rfl, h0, r0⟩ := trodAll_cons hA
  obtain ⟨v1, vs1, d1, ds1, p1, q1, rfl, rfl, rfl, h1, r1⟩ := trodAll_cons r0
  obtain ⟨v2, vs2, d2, ds2, p2, q2, rfl, rfl, rfl, h2, r2⟩ := trodAll_cons r1
  obtain ⟨rfl, rfl, rfl⟩ := trodAll_nil r2
  obtain rfl : args = #[v0, v1, v2] := by cases args; simp_all
  obtain ⟨rfl, rfl⟩ := trodVars_none hV
  obtain ⟨a0, rfl, rfl, rfl, w0⟩ := open_string Try.underlying9 (hval 0 9 v0 rfl rfl) h0
  have k1 := h1
  have lt1 : ∀ x ∈ p1, x.block < W.heap.size := by obtain ⟨m, hm⟩ := k1; exact DataW.trod_lt m _ _ _ hm
  obtain ⟨e1, f1, g1, z1, e1', f1', g1', z1', rfl, w1, w1'⟩ := open_arr2s (hval 1 31 v1 rfl rfl) h1
  obtain ⟨a2, rfl, rfl, rfl, w2⟩ := open_string Try.underlying9 (hval 2 9 v2 rfl rfl) h2
  clear hA0 hval0
  refine (walk a0 w0 e1 f1 g1 z1 e1' f1' g1' z1' W w1 w1' a2 w2).mono fun e W' ⟨he, bel⟩ => ?_
  subst he
  exact ⟨_, rfl, _, _, _, [], _, [], hW', trodAll_mk1 (shut_bool Try.underlying4 _), (trodAll_cons_mk (shut_string Try.underlying9 w0) (trodAll_cons_mk (Below.trod laidOut (by kernel_rfl) (of_decide_eq_true (by kernel_rfl)) k1 bel lt1) (trodAll_cons_mk (shut_string Try.underlying9 w2) trodAll_mk0))), rfl, bel.frame _, fun h => by cases h⟩

theorem over : Rows.mendFindsRow.holds Try.pinned (OpenSpec.ofChange Rows.mendFindsSpec) :=
  OpenClaim.holds_of_wide 4 Try.f4 rfl rfl rfl rfl rfl rfl rfl ⟨rfl, rfl, rfl, rfl, rfl⟩ rfl rfl rfl rfl rfl (by kernel_rfl) Try.func4 (by kernel_rfl)
    (of_decide_eq_true (by kernel_rfl)) (by unfold Func.isWrapper; first | (rw [if_pos (by decide +kernel)]; kernel_rfl) | (rw [if_neg (by decide +kernel)]; exact ⟨rfl, rfl⟩))
    (fun os started H enc _ => lifted os started H enc)

theorem proved : Rows.MendFindsSaid := over
#print axioms proved
end Go.Proofs.Ytdlcloenihkkgaa.mendFinds
