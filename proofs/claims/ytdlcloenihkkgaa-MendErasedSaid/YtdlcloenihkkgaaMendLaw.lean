/-
  What the laws of layer 4 share: the chapter's examples.
-/
import Derived.Test.YtdlcloenihkkgaaMendImp
import Derived.Test.YtdlcloenihkkgaaDrawH
import Derived.ChangeSlices
import Derived.OpenShut
import Derived.ShutString
import Derived.ChangeOld
import Derived.Carry
import Derived.WalkLawsBesides
namespace Go.Proofs.Ytdlcloenihkkgaa
open Go.RowKit Gf
set_option maxRecDepth 100000
theorem cell_old {W : World} {p : Addr} {v : Value} (h : W.cell? p = some v) : p.block < W.heap.size := by
  obtain ⟨o, ho, _⟩ := cells_of_cell h
  exact (Array.getElem?_eq_some_iff.1 ho).1
/-- .. one that came in. -/
def IsA (W : World) (a : Option Addr) (len cap : Nat) (l : List Int) : Prop := IsI W a len l ∧ len ≤ cap
open Go.ChangeShapes Go.WideShapes Go.ChangeAt in
theorem open_irow {H : Type} {enc : TypeId × Value → H} {W : World} {base : Nat} {held : Bool} {a : Option Addr} {len cap : Nat} {d : DataW H} {p : List MemPlace}
    (h : DataW.Trod enc Try.prog W base (fun _ => true) held 22 (.slice a len cap) d p) : ∃ l, IsA W a len cap l := by
  obtain ⟨fuel, hf⟩ := h
  rcases open_ints Try.underlying22 Try.underlying3 (by kernel_rfl) hf with ⟨hcs, _⟩ | ⟨x, l, c, zs, hcs, _, hl, hm, hz, _, hcell, hwz⟩
  · simp [Value.cells] at hcs
    obtain ⟨rfl, rfl, rfl⟩ := hcs
    exact ⟨[], ⟨rfl, by omega⟩, Nat.le_refl _⟩
  · simp [Value.cells] at hcs
    obtain ⟨rfl, rfl, rfl⟩ := hcs
    simp at hz
    refine ⟨zs.take len, ⟨by rw [List.length_take]; omega, fun h0 => ?_⟩, by omega⟩
    obtain ⟨b, off, rfl, hc⟩ := ints_at hcell (by omega)
    refine ⟨b, off, rfl, cell_old (hc 0 (by omega)), fun i hi => ?_⟩
    rw [hc i (by omega)]
    simp only [List.getD_eq_getElem?_getD]
    rw [List.getElem?_take_of_lt (by omega)]
theorem two_of {α : Type} (l : List α) (h : l.length = 2) : ∃ a b, l = [a, b] := by
  match l, h with
  | [a, b], _ => exact ⟨a, b, rfl⟩
open Go.ChangeShapes Go.WideShapes Go.ChangeAt in
theorem open_isl {H : Type} {enc : TypeId × Value → H} {W : World} {base : Nat} {held : Bool} {c : Value} {y : DataW H × List MemPlace} {m : Nat}
    (hf : DataW.trod enc Try.prog W base (fun _ => true) held m 22 [c] = some y) : ∃ a len cap l, c = .slice a len cap ∧ IsA W a len cap l := by
  rcases open_ints Try.underlying22 Try.underlying3 (by kernel_rfl) hf with ⟨hcs, _⟩ | ⟨x, l, c, zs, hcs, _, hl, hm, hz, _, hcell, hwz⟩
  · simp at hcs
    exact ⟨none, 0, 0, [], hcs, ⟨rfl, by omega⟩, Nat.le_refl _⟩
  · simp at hcs
    simp at hz
    refine ⟨some x, l, c, zs.take l, hcs, ⟨by rw [List.length_take]; omega, fun h0 => ?_⟩, by omega⟩
    obtain ⟨b, off, rfl, hc⟩ := ints_at hcell (by omega)
    refine ⟨b, off, rfl, cell_old (hc 0 (by omega)), fun i hi => ?_⟩
    rw [hc i (by omega)]
    simp only [List.getD_eq_getElem?_getD]
    rw [List.getElem?_take_of_lt (by omega)]
open Go.ChangeShapes Go.WideShapes Go.ChangeAt in
theorem open_arr2s {H : Type} {enc : TypeId × Value → H} {W : World} {r : Reach} {b0 base : Nat} {held : Bool} {v : Value} {d : DataW H} {p : List MemPlace}
    (hv : Value.okWide Try.prog W r b0 31 v) (h : DataW.Trod enc Try.prog W base (fun _ => true) held 31 v d p) :
    ∃ a0 n0 c0 l0 a1 n1 c1 l1, v = .agg #[.slice a0 n0 c0, .slice a1 n1 c1] ∧ IsA W a0 n0 c0 l0 ∧ IsA W a1 n1 c1 l1 := by
  obtain ⟨cs, rfl, hsz, _⟩ : ∃ cs, v = .agg cs ∧ cs.size = Try.prog.cellsOf 31 ∧ Row.okWide Try.prog W r b0 31 cs := by
    simpa [Value.okWide, Try.underlying31] using hv
  have c2 : Try.prog.cellsOf 31 = 2 := by kernel_rfl
  have c1 : Try.prog.cellsOf 22 = 1 := by kernel_rfl
  rw [c2] at hsz
  obtain ⟨l⟩ := cs
  obtain ⟨c, c', rfl⟩ := two_of l hsz
  obtain ⟨fuel, hf⟩ := h
  obtain ⟨xs, m, _, _, _, hn, hxs⟩ := DataW.trod_array Try.underlying31 hf
  have h0 := hxs 0 (by omega)
  have h1 := hxs 1 (by omega)
  rw [c1] at h0 h1
  obtain ⟨y0, y1, rfl⟩ := two_of xs hn
  simp [Value.cells] at h0 h1
  obtain ⟨a0, n0, c0, l0, rfl, i0⟩ := open_isl h0
  obtain ⟨a1, n1, c1, l1, rfl, i1⟩ := open_isl h1
  exact ⟨a0, n0, c0, l0, a1, n1, c1, l1, rfl, i0, i1⟩
theorem ris_any (w0 : World) (p : ByteArray) (w : World) (hk : Keeps w0 w) :
    Calls Try.prog 21 #[.string p] w fun e w' => e = .returned (.bool (isB (ls p))) ∧ Keeps w0 w' := by
  by_cases h : p.size = 255
  · exact ris_some w0 p w h hk
  · exact ris_other w0 p w h hk
theorem z8_word4 : IsWord (z8 255) := ⟨z8_len 255, fun _ _ => hv_zeros 255 _⟩
def ex9 : List UInt8 := z8 9 ++ [120] ++ z8 245
theorem ex9_dif : dif ex9 (z8 255) [] = 1 := by kernel_rfl
theorem ex9_len : ex9.length = 255 := by kernel_rfl
theorem ex9_near : Near ex9 [] (z8 255) := by
  unfold Near
  rw [ex9_dif]
  exact And.intro z8_word4 (by decide)
theorem ex9_unl : unlAll ex9 (z8 255) = [9] := by kernel_rfl
theorem ex9_ans {r : List UInt8} {ps : List Int} {e : Int} (h : MAns ex9 [] r ps e) : r = z8 255 ∧ ps = [9] ∧ e = 0 := by
  have h2 := h.found (v := z8 255) ex9_len (fun i hi => by cases hi) ex9_near
  rw [ex9_unl] at h2; exact h2
theorem ex9_text : (st (z8 255)).extract 0 9 ++ ⟨#[120]⟩ ++ (st (z8 255)).extract 10 255 = st ex9 := by
  have h : ls ((st (z8 255)).extract 0 9 ++ ⟨#[120]⟩ ++ (st (z8 255)).extract 10 255) = ex9 := by kernel_rfl
  rw [← st_ls ((st (z8 255)).extract 0 9 ++ ⟨#[120]⟩ ++ (st (z8 255)).extract 10 255), h]
def vsA (V A1 A2 A3 T : ByteArray) (γ : Option Addr × Nat × Nat) : List Value :=
  [.string V, .string A1, .string A2, .string V, .string A3, .string T, .tuple #[.string V, .slice γ.1 γ.2.1 γ.2.2, .int .i64 0], .tuple #[.string V, .slice γ.1 γ.2.1 γ.2.2, .int .i64 0], .string V, .slice γ.1 γ.2.1 γ.2.2, .int .i64 0, .string V, .slice γ.1 γ.2.1 γ.2.2, .int .i64 0]
theorem isI_lit1 (w : World) (y : Int) (t : TypeId) : IsI (w.alloc (.cells #[.int .i64 y] t)) (some ⟨w.heap.size, 0, none⟩) 1 [y] :=
  ⟨rfl, fun _ => ⟨w.heap.size, 0, rfl, by simp, fun i hi => by
    obtain rfl : i = 0 := by omega
    rw [World.cell?_alloc_new]; rfl⟩⟩
theorem vsA_same {V A1 A2 A3 T : ByteArray} {γ γ' : Option Addr × Nat × Nat} {L : Nat → Bool} (h6 : L 6 = false) (h7 : L 7 = false) (h8 : L 8 = false) (h9 : L 9 = false) (h10 : L 10 = false) (h11 : L 11 = false) (h12 : L 12 = false) (h13 : L 13 = false) :
    ∀ j, L j = true → (vsA V A1 A2 A3 T γ').getD j undef = (vsA V A1 A2 A3 T γ).getD j undef
  | 0, _ => rfl
  | 1, _ => rfl
  | 2, _ => rfl
  | 3, _ => rfl
  | 4, _ => rfl
  | 5, _ => rfl
  | 6, h => by rw [h6] at h; cases h
  | 7, h => by rw [h7] at h; cases h
  | 8, h => by rw [h8] at h; cases h
  | 9, h => by rw [h9] at h; cases h
  | 10, h => by rw [h10] at h; cases h
  | 11, h => by rw [h11] at h; cases h
  | 12, h => by rw [h12] at h; cases h
  | 13, h => by rw [h13] at h; cases h
  | n + 14, _ => rfl
set_option maxRecDepth 100000 in
set_option maxHeartbeats 4000000 in
theorem awake4_any (w0 w : World) (hk : Keeps w0 w) :
    Calls Try.prog 9 #[] w fun e w' => e = .returned (.bool true) ∧ Keeps w0 w' := by
  have hm1 : ∀ W : World, (Instr.makeSlice 34 (.int .i64 191) (.int .i64 191)).run Try.prog W = .ok (.slice (some ⟨W.heap.size, 0, none⟩) 191 191) (W.alloc (.cells (zr 191) 5)) := fun W => make8 191 (by omega) W
  have ht1 : ∀ W : World, (convert 34 9 (.slice (some ⟨W.heap.size, 0, none⟩) 191 191)).run Try.prog (W.alloc (.cells (zr 191) 5)) = .ok (.string (st (z8 191))) (W.alloc (.cells (zr 191) 5)) := fun W => text_zr W 191 (by omega)
  go_enter Try.func9, Try.ntmps9
  go_wp2_with fail
  refine (word_any w0 _ _ (by rw [st_size]; exact z8_len 191) (hk.alloc _)).mono ?_
  rintro e w1 ⟨p, rfl, hp, hw, hk1⟩
  rw [ls_st] at hw
  obtain rfl : p = z8 64 := parity_one hp (z8_len 64) hw (by rw [show z8 191 ++ z8 64 = z8 255 from List.replicate_append_replicate]; exact z8_word4)
  have e1 : (fun p => ls (st (z8 191)) ++ p) (z8 64) = z8 255 := by rw [ls_st]; exact List.replicate_append_replicate
  rw [e1]
  clear hk hp hw e1 hm1 ht1
  have hV : (st (z8 255)).size = 255 := by rw [st_size, z8_len]
  have HT := Lib.hid ex9_text
  obtain ⟨V, hVe⟩ : ∃ V, st (z8 255) = V := ⟨_, rfl⟩
  rw [hVe] at HT hV
  rw [hVe]
  obtain ⟨A1, hA1⟩ : ∃ A1, V.extract 0 9 = A1 := ⟨_, rfl⟩
  obtain ⟨A2, hA2⟩ : ∃ A2, A1 ++ ⟨#[120]⟩ = A2 := ⟨_, rfl⟩
  obtain ⟨A3, hA3⟩ : ∃ A3, V.extract 10 255 = A3 := ⟨_, rfl⟩
  obtain ⟨T, hT⟩ : ∃ T, A2 ++ A3 = T := ⟨_, rfl⟩
  have hA1s : A1.size = 9 := by rw [← hA1, ByteArray.size_extract, hV]; rfl
  have hA3s : A3.size = 245 := by rw [← hA3, ByteArray.size_extract, hV]; rfl
  have hA2s : A2.size = 10 := by rw [← hA2, ByteArray.size_append, hA1s]; rfl
  have HTE := Lib.hid (show T = st ex9 by rw [← hT, ← hA2, ← hA1, ← hA3]; exact HT.out)
  have HVE := Lib.hid hVe
  have hcall : ∀ W : World, Calls Try.prog 17 #[.string T, .slice none 0 0] W fun e w' => ∃ a n c, e = .returned (.tuple #[.string V, .slice a n c, .int .i64 0]) ∧ IsI w' a n [9] ∧ Keeps W w' := fun W => by
    refine (mword_any T none 0 0 [] W (IsI.nil W) (by rw [HTE.out, st_size, ex9_len]; omega) (by omega)).mono ?_
    rintro e w' ⟨r, ps, er, a, n, c, rfl, hm, hi, hk⟩
    rw [HTE.out, ls_st] at hm
    obtain ⟨rfl, rfl, rfl⟩ := ex9_ans hm
    exact ⟨a, n, c, by rw [HVE.out], hi, hk⟩
  have HC := Lib.hid hcall
  clear hcall hVe
  go_wp2
  refine wp_draw_h (by kernel_rfl) (vsA V A1 A2 A3 T) (fun γ => Once 6 (Eqv w1) (fun W => IsI W γ.1 γ.2.1 [9] ∧ Keeps w1 W)) rfl (by kernel_rfl) ?fin ?hfin (none, 0, 0) (Once.start (Eqv.drew w1)) ?each ?hend
  case hfin => intro γ; simp [vsA, seqA, dstOf, Act.put]; rfl
  case each =>
    refine ⟨?_, ?_, ?_, ?_, ?_, ?_, ?_, ?_, ?_, ?_, ?_, ?_, ?_, ?_, trivial⟩
    all_goals intro γ L w2 h0 hd hs hw
    all_goals unfold Does
    all_goals try simp only [Nat.zero_add, Nat.reduceAdd] at h0
    · go_simp
      exact Goes.on (fun _ => rfl) fun L' k => hw.same (by decide) k
    · go_simp
      exact Goes.on (fun _ => rfl) fun L' k => hw.same (by decide) k
    · go_simp
      exact Goes.on (fun _ => rfl) fun L' k => hw.same (by decide) k
    · go_simp
      exact Goes.on (fun _ => rfl) fun L' k => hw.same (by decide) k
    · go_simp
      exact Goes.on (fun _ => rfl) fun L' k => hw.same (by decide) k
    · go_simp
      exact Goes.on (fun _ => rfl) fun L' k => hw.same (by decide) k
    · have hA := hw.1 h0
      go_simp
      refine (HC.out w2).mono ?_
      rintro e w3 ⟨a, n, c, rfl, hi, hk⟩
      have h7 := hs.no (i := 6) (j := 7) (by kernel_rfl) h0
      have h8 := hs.no (i := 7) (j := 8) (by kernel_rfl) h7
      have h9 := hs.no (i := 7) (j := 9) (by kernel_rfl) h7
      have h10 := hs.no (i := 7) (j := 10) (by kernel_rfl) h7
      exact ⟨_, rfl, (a, n, c), vsA_same h0 h7 h8 h9 h10 (hs.no (i := 8) (by kernel_rfl) h8) (hs.no (i := 9) (by kernel_rfl) h9) (hs.no (i := 10) (by kernel_rfl) h10), (fun _ => rfl), fun L' k => Once.done k ⟨hi, (Keeps.refl w1).eqv hA |>.over hk⟩⟩
    · go_simp
      exact Goes.on (fun _ => rfl) fun L' k => hw.same (by decide) k
    · go_simp
      exact Goes.on (fun _ => rfl) fun L' k => hw.same (by decide) k
    · go_simp
      exact Goes.on (fun _ => rfl) fun L' k => hw.same (by decide) k
    · go_simp
      exact Goes.on (fun _ => rfl) fun L' k => hw.same (by decide) k
    · go_simp
      exact Goes.on (fun _ => rfl) fun L' k => hw.same (by decide) k
    · go_simp
      exact Goes.on (fun _ => rfl) fun L' k => hw.same (by decide) k
    · go_simp
      exact Goes.on (fun _ => rfl) fun L' k => hw.same (by decide) k
  case hend =>
    rintro ⟨a, n, c⟩ L w2 hL hw
    obtain ⟨hi, hk2⟩ := hw.2 (hL 6 (by simp))
    clear hw hL
    have hn1 : n = 1 := hi.1.symm
    subst hn1
    have hst := st_toList
    have HI := Lib.hid hi
    clear hi
    go_wp2_with fail
    refine (mroom_any 0 w2).mono ?_
    rintro e w3 ⟨rfl, hk3⟩
    have hz : roomZ 0 = 32 := rfl
    rw [hz]
    go_wp2_with fail
    refine (mroom_any 63 w3).mono ?_
    rintro e w4 ⟨rfl, hk4⟩
    have hz : roomZ 63 = 0 := rfl
    rw [hz]
    go_wp2_with fail
    refine (mroom_any 64 w4).mono ?_
    rintro e w5 ⟨rfl, hk5⟩
    have hz : roomZ 64 = 0 := rfl
    rw [hz]
    go_wp2_with fail
    refine (mroom_any 65 w5).mono ?_
    rintro e w6 ⟨rfl, hk6⟩
    have hz : roomZ 65 = -1 := rfl
    rw [hz]
    go_wp2_with fail
    have HK := Lib.hid ((((hk1.over hk2).over hk3).over hk4).over hk5 |>.over hk6)
    refine (ints_any a (some ⟨w6.heap.size, 0, none⟩) 1 c 1 1 [9] [9] _ ((((((HI.out.kept hk3).kept hk4).kept hk5).kept hk6)).kept ((Keeps.refl w6).alloc _)) (isI_lit1 w6 9 _) (by omega) (by omega)).mono ?_
    rintro e w7 ⟨rfl, hev⟩
    have hb : intsB [9] [9] = true := rfl
    rw [hb]
    go_wp2
    go_ret
    exact ⟨rfl, (HK.out.alloc _).eqv hev⟩
end Go.Proofs.Ytdlcloenihkkgaa
