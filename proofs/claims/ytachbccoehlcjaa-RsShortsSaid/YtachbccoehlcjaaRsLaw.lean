/-
  What the laws of layer 3 share: the document's Is for all texts, and the chapter's examples.
-/
import Derived.Test.YtachbccoehlcjaaRsImp
namespace Go.Proofs.Ytachbccoehlcjaa
open Go.RowKit Gf
theorem ris_any (w0 : World) (p : ByteArray) (w : World) (hk : Keeps w0 w) :
    Calls Try.prog 13 #[.string p] w fun e w' => e = .returned (.bool (isB (ls p))) ∧ Keeps w0 w' := by
  by_cases h : p.size = 255
  · exact ris_some w0 p w h hk
  · exact ris_other w0 p w h hk
theorem z8_length (n : Nat) : (z8 n).length = n := List.length_replicate
theorem z8_add (n m : Nat) : z8 n ++ z8 m = z8 (n + m) := List.replicate_append_replicate
theorem z8_word : IsWord (z8 255) := ⟨z8_length 255, fun _ _ => hv_zeros 255 _⟩
theorem z8_is : isB (z8 255) = true := (isB_iff _).2 z8_word
set_option maxHeartbeats 1600000 in
theorem awake3_any (w0 w : World) (hk : Keeps w0 w) :
    Calls Try.prog 8 #[] w fun e w' => e = .returned (.bool true) ∧ Keeps w0 w' := by
  have hm1 : ∀ W : World, (Instr.makeSlice 31 (.int .i64 191) (.int .i64 191)).run Try.prog W = .ok (.slice (some ⟨W.heap.size, 0, none⟩) 191 191) (W.alloc (.cells (zr 191) 5)) := fun W => make8 191 (by omega) W
  have ht1 : ∀ W : World, (convert 31 9 (.slice (some ⟨W.heap.size, 0, none⟩) 191 191)).run Try.prog (W.alloc (.cells (zr 191) 5)) = .ok (.string (st (z8 191))) (W.alloc (.cells (zr 191) 5)) := fun W => text_zr W 191 (by omega)
  have hm2 : ∀ W : World, (Instr.makeSlice 31 (.int .i64 64) (.int .i64 64)).run Try.prog W = .ok (.slice (some ⟨W.heap.size, 0, none⟩) 64 64) (W.alloc (.cells (zr 64) 5)) := fun W => make8 64 (by omega) W
  have ht2 : ∀ W : World, (convert 31 9 (.slice (some ⟨W.heap.size, 0, none⟩) 64 64)).run Try.prog (W.alloc (.cells (zr 64) 5)) = .ok (.string (st (z8 64))) (W.alloc (.cells (zr 64) 5)) := fun W => text_zr W 64 (by omega)
  have hm3 : ∀ W : World, (Instr.makeSlice 31 (.int .i64 255) (.int .i64 255)).run Try.prog W = .ok (.slice (some ⟨W.heap.size, 0, none⟩) 255 255) (W.alloc (.cells (zr 255) 5)) := fun W => make8 255 (by omega) W
  have ht3 : ∀ W : World, (convert 31 9 (.slice (some ⟨W.heap.size, 0, none⟩) 255 255)).run Try.prog (W.alloc (.cells (zr 255) 5)) = .ok (.string (st (z8 255))) (W.alloc (.cells (zr 255) 5)) := fun W => text_zr W 255 (by omega)
  have ht4 : ∀ (W : World) (o : Obj), (convert 31 9 (.slice (some ⟨W.heap.size + 1, 0, none⟩) 255 255)).run Try.prog ((W.alloc o).alloc (.cells (zr 255) 5)) = .ok (.string (st (z8 255))) ((W.alloc o).alloc (.cells (zr 255) 5)) := fun W o => by
    have h := text_zr (W.alloc o) 255 (by omega)
    rw [World.size_alloc] at h; exact h
  have hst := st_toList
  go_enter Try.func8, Try.ntmps8
  go_wp2_with fail
  refine (enc_any w0 _ _ (by rw [st_size]; exact z8_length 191) (hk.alloc _)).mono ?_
  rintro e w1 ⟨p, rfl, hp, hw, hk1⟩
  rw [ls_st] at hw
  obtain rfl : p = z8 64 := parity_one hp (z8_length 64) hw (by rw [z8_add]; exact z8_word)
  rw [id]
  clear hk hp hw
  go_wp2_with fail
  refine (rsis_any w0 (st (z8 255)) _ (by rw [st_size, z8_length]; omega) ((hk1.alloc _).alloc _)).mono ?_
  rintro e w2 ⟨rfl, hk2⟩
  rw [ls_st, z8_is]
  clear hk1
  go_wp2
  go_ret
  exact ⟨rfl, hk2⟩
end Go.Proofs.Ytachbccoehlcjaa
