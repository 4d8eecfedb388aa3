/-
  The chapter's example of layer 10, few texts, and how a part that is handed in is read. The memory that was there stays.
-/
import Derived.Test.YtbkodlinfmflkaaMpC
import Derived.Test.YtbkodlinfmflkaaDgE
import Derived.DataReads
namespace Go.Proofs.Ytbkodlinfmflkaa
open Go.RowKit Gf Go.Deep Go.ChangeShapes Go.WideShapes Go.ChangeAt Tm Sct Mpe
set_option maxRecDepth 100000
def gl : List UInt8 := Dg.make4 [97, 98, 99, 100] [101, 102, 103, 104] 17 [104, 105]
theorem gl_length : gl.length = 22 := by kernel_rfl
theorem gl_check : Dg.check gl = 0 := by kernel_rfl
theorem mpgram_any (w0 w : World) (hk : Keeps w0 w) : Calls Try.prog 22 #[.string ⟨#[104, 105]⟩] w fun e w' => e = .returned (.string (st gl)) ∧ Keeps w0 w' := by
  have HM := Lib.hid (show Calls Try.prog 38 #[.string ⟨#[97, 98, 99, 100]⟩, .string ⟨#[101, 102, 103, 104]⟩, .int .i64 17, .string ⟨#[104, 105]⟩] w (fun e w' => e = .returned (.tuple #[.string (st gl), .int .i64 0]) ∧ Keeps w0 w') from
    (dgrmake4_any w0 [97, 98, 99, 100] [101, 102, 103, 104] [104, 105] rfl rfl 17 w (by decide) hk).mono fun e w' h => ⟨h.1.trans (congrArg Ending.returned (mkR_ok (mk_ok (by decide) (by decide) (by decide)))), h.2⟩)
  obtain ⟨G, hG⟩ : ∃ G, st gl = G := ⟨_, rfl⟩
  rw [hG] at HM ⊢
  clear hG
  go_enter Try.func22, Try.ntmps22
  go_wp2_with (go_at_call 38; refine HM.out.mono ?_; rintro _ w1 ⟨rfl, k1⟩)
  go_ret
  exact ⟨rfl, k1⟩
theorem isM_mby (p : Prt) : isM (mby p) = true := by
  unfold isM
  rw [decide_eq_true (show 0 < (mby p).length by rw [mby_length]; omega), ← cf_take_lt (mby p) 8 0 (by decide), mby_head, hd8_sOf]
  rfl
def exP : Prt := ⟨258, ⟨5, false, false, 3⟩, st gl⟩
theorem exP_ck : ckP exP = 0 := by
  rw [ckP_ok (show okM exP from ⟨⟨by decide, by decide⟩, ⟨by decide, by decide⟩, by decide, by decide⟩)]
  show Dg.check (ls (st gl)) = 0
  rw [ls_st]; exact gl_check
theorem exP_size : exP.txt.size = 22 := by show (st gl).size = 22; rw [st_size, gl_length]
theorem exP_head : (mby exP).take 12 = [62, 176, 35, 1, 2, 193, 0, 0, 0, 80, 0, 3] := by
  rw [mby_twelve, hd8_sOf, exP_size]; rfl
theorem exP_text : ((mby exP).drop 12).take 22 = gl := by
  have := mby_text exP
  rw [exP_size] at this
  rw [this]; exact ls_st gl
set_option maxHeartbeats 1600000 in
theorem awake10_any (w0 w : World) (hk : Keeps w0 w) : Calls Try.prog 10 #[] w fun e w' => e = .returned (.bool true) ∧ Keeps w0 w' := by
  have HG := Lib.hid (fun W => mpgram_any W W (Keeps.refl W))
  have HE := Lib.hid (fun W => mpencode_any W exP W (by rw [exP_size]; decide) (Keeps.refl W))
  unfold PecPost at HE
  rw [ecP_ok exP_ck] at HE
  obtain ⟨S, hS⟩ : ∃ S, st (mby exP) = S := ⟨_, rfl⟩
  have hz : S.size = 38 := by rw [← hS, st_size, mby_length, exP_size]
  have h12 : S.extract 0 12 = ⟨#[62, 176, 35, 1, 2, 193, 0, 0, 0, 80, 0, 3]⟩ := by
    rw [← st_ls (S.extract 0 12), ls_part, ← hS, ls_st, List.drop_zero, exP_head]; rfl
  have h34 : S.extract 12 34 = st gl := by
    rw [← st_ls (S.extract 12 34), ls_part, ← hS, ls_st, exP_text]
  simp only [hS] at HE
  unfold exP at HE
  obtain ⟨G, hG⟩ : ∃ G, st gl = G := ⟨_, rfl⟩
  rw [hG] at HG HE h34
  have HKK := Lib.hid hk
  clear hS hG hk
  go_enter Try.func10, Try.ntmps10
  go_wp2_with (first | (go_at_call 22; refine (HG.out _).mono ?_; rintro _ w1 ⟨rfl, k1⟩; have HK1 := Lib.hid (HKK.out.trans k1); clear k1) | (go_at_call 13; refine (HE.out _).mono ?_; rintro _ w2 ⟨rfl, k2⟩; have HK2 := Lib.hid (HK1.out.trans k2); clear k2))
  refine wp_draw (by kernel_rfl) [.int .i64 0, .bool true, .bool true, .string S, .int .i64 38, .bool true, .bool true, .bool true, .string S, .string ⟨#[62, 176, 35, 1, 2, 193, 0, 0, 0, 80, 0, 3]⟩, .bool true, .bool true, .bool true, .string S, .string G, .string G, .bool true, .bool true, .bool true]
    (fun _ W => Keeps w2 W) rfl (by kernel_rfl) (fin := ?fin) ?hfin ((Keeps.refl w2).eqv (Eqv.drew w2)) ?each ?hend
  case hfin => simp [seqA, dstOf, Act.put]; rfl
  case each =>
    refine ⟨?_, ?_, ?_, ?_, ?_, ?_, ?_, ?_, ?_, ?_, ?_, ?_, ?_, ?_, ?_, ?_, ?_, ?_, ?_, trivial⟩
    all_goals intro X w6 h0 hd hs hw
    all_goals try rw [if_pos (by rfl)]
    all_goals unfold Does
    all_goals go_simp
    all_goals first | exact fun L' k => hw | ((with_reducible refine (HG.out w6).mono ?_); rintro e w8 ⟨rfl, k8⟩; exact ⟨_, rfl, rfl, fun _ _ => hw.trans k8⟩)
  case hend =>
  intro X w6 hL hw
  have HK3 := Lib.hid (HK2.out.trans hw)
  clear hw hL
  go_wp2
  go_ret
  exact ⟨rfl, HK3.out⟩
theorem six_of {α : Type} : ∀ {l : List α}, l.length = 6 → ∃ a b c d e f, l = [a, b, c, d, e, f]
  | [a, b, c, d, e, f], _ => ⟨a, b, c, d, e, f, rfl⟩
theorem tms_cells {H : Type} {enc : TypeId × Value → H} {W : World} {base fuel : Nat} {spare : Nat → Bool} {held : Bool} {cs : List Value} {d : DataW H} {p : List MemPlace}
    (hf : DataW.trod enc Try.prog W base spare held fuel 23 cs = some (d, p)) : ∃ s : Tms, cs = tmC s := by
  obtain ⟨xs, m, _, _, hl, hx, hi⟩ := DataW.trod_struct Try.underlying23 hf
  have c8 : Try.prog.cellsOf 23 = 4 := by kernel_rfl
  have ci : Try.prog.cellsOf 3 = 1 := by kernel_rfl
  have cb : Try.prog.cellsOf 4 = 1 := by kernel_rfl
  rw [c8] at hl
  obtain ⟨v0, v1, v2, v3, rfl⟩ := four_ofT hl
  obtain ⟨y0, y1, y2, y3, rfl⟩ := four_ofT (show xs.length = 4 from hx)
  have h0 := hi 0 _ rfl
  have h1 := hi 1 _ rfl
  have h2 := hi 2 _ rfl
  have h3 := hi 3 _ rfl
  simp [ci, cb] at h0 h1 h2 h3
  obtain ⟨x0, e0, _⟩ := DataW.trod_int Try.underlying3 h0
  obtain ⟨x1, e1, _⟩ := DataW.trod_bool Try.underlying4 h1
  obtain ⟨x2, e2, _⟩ := DataW.trod_bool Try.underlying4 h2
  obtain ⟨x3, e3, _⟩ := DataW.trod_int Try.underlying3 h3
  simp at e0 e1 e2 e3
  exact ⟨⟨x0, x1, x2, x3⟩, by rw [e0, e1, e2, e3]⟩
theorem prt_cells {H : Type} {enc : TypeId × Value → H} {W : World} {base fuel : Nat} {spare : Nat → Bool} {held : Bool} {cs : List Value} {d : DataW H} {p : List MemPlace}
    (hf : DataW.trod enc Try.prog W base spare held fuel 25 cs = some (d, p)) : ∃ s : Prt, cs = prC s := by
  obtain ⟨xs, m, _, _, hl, hx, hi⟩ := DataW.trod_struct Try.underlying25 hf
  have c8 : Try.prog.cellsOf 25 = 6 := by kernel_rfl
  have ci : Try.prog.cellsOf 3 = 1 := by kernel_rfl
  have ct : Try.prog.cellsOf 23 = 4 := by kernel_rfl
  have cst : Try.prog.cellsOf 9 = 1 := by kernel_rfl
  rw [c8] at hl
  obtain ⟨v0, v1, v2, v3, v4, v5, rfl⟩ := six_of hl
  obtain ⟨y0, y1, y2, rfl⟩ : ∃ a b c, xs = [a, b, c] := by
    match xs, (show xs.length = 3 from hx) with
    | [a, b, c], _ => exact ⟨a, b, c, rfl⟩
  have h0 := hi 0 _ rfl
  have h1 := hi 1 _ rfl
  have h2 := hi 2 _ rfl
  simp [ci, ct, cst] at h0 h1 h2
  obtain ⟨x0, e0, _⟩ := DataW.trod_int Try.underlying3 h0
  obtain ⟨t, et⟩ := tms_cells h1
  obtain ⟨x2, e2, _⟩ := DataW.trod_string Try.underlying9 h2
  simp [tmC] at e0 et e2
  obtain ⟨e10, e11, e12, e13⟩ := et
  exact ⟨⟨x0, t, x2⟩, by rw [e0, e10, e11, e12, e13, e2]⟩
/-- A part that is handed in. -/
theorem open_prt {H : Type} {enc : TypeId × Value → H} {W : World} {r : Reach} {b0 base : Nat} {spare : Nat → Bool} {held : Bool} {v : Value} {d : DataW H} {p : List MemPlace}
    (hv : Value.okWide Try.prog W r b0 25 v) (h : DataW.Trod enc Try.prog W base spare held 25 v d p) : ∃ s : Prt, v = prV s := by
  obtain ⟨cs, rfl, hsz, _⟩ : ∃ cs, v = .agg cs ∧ cs.size = Try.prog.cellsOf 25 ∧ Row.okWide Try.prog W r b0 25 cs := by
    simpa [Value.okWide, Try.underlying25] using hv
  obtain ⟨l⟩ := cs
  obtain ⟨fuel, hf⟩ := h
  obtain ⟨s, hs⟩ := prt_cells hf
  exact ⟨s, by rw [show l = prC s from hs]⟩
end Go.Proofs.Ytbkodlinfmflkaa
