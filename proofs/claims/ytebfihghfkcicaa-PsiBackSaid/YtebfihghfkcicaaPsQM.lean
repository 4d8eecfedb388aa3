/-
  What PlainPmt of layer 17's statements answers. The memory that was there stays.
-/
import Derived.Test.YtebfihghfkcicaaPsQ
namespace Go.Proofs.Ytebfihghfkcicaa
open Go.RowKit Gf Ps
set_option maxRecDepth 100000
set_option maxHeartbeats 6400000 in
theorem plpmt_any (st ve cl : Int) (inf : ByteArray) {a : Option Addr} {n cap : Nat} {l : List Strm} (w : World) (h : IsE rowSt w a n l) (hn : n ≤ 1000000) :
    Calls Try.prog 15 #[.agg #[.int .i64 st, .int .i64 ve, .int .i64 cl, .string inf, .slice a n cap]] w (PlPost w st ve cl inf (l.map qSt)) := by
  obtain ⟨wA, hA⟩ : ∃ wX, w.alloc (.cells #[.int .i64 st, .int .i64 ve, .int .i64 cl, .string inf, .slice a n cap] 27) = wX := ⟨_, rfl⟩
  obtain ⟨b, hb⟩ : ∃ b, w.heap.size = b := ⟨_, rfl⟩
  have HA := Lib.hid (CsAns.start (Keeps.refl w) (a := #[.int .i64 st, .int .i64 ve, .int .i64 cl, .string inf, .slice a n cap]) (by simp) hb hA)
  have hz : wA.heap.size = b + 1 := by rw [← hA, World.size_alloc, hb]
  obtain ⟨wB, hB⟩ : ∃ wX, wA.alloc (.cells #[.int .i64 0, .int .i64 0, .int .i64 0, .string ⟨#[]⟩, .slice none 0 0] 41) = wX := ⟨_, rfl⟩
  have kB : Keeps wA wB := by rw [← hB]; exact (Keeps.refl wA).alloc _
  have hz2 : wB.heap.size = b + 2 := by rw [← hB, World.size_alloc, hz]
  have HA2 := Lib.hid (HA.out.keeps kB)
  have HZ := Lib.hid (CsAns.start (Keeps.refl wA) (a := #[.int .i64 0, .int .i64 0, .int .i64 0, .string ⟨#[]⟩, .slice none 0 0]) (by simp) hz hB)
  have HI0 := Lib.hid h
  have HI := Lib.hid (h.keeps HA2.out.k)
  have HN := Lib.hid h.1
  have HB := Lib.hid hb
  have q0 := HA2.out.z.cell 0 rfl
  have q1 := HA2.out.z.cell 1 rfl
  have q2 := HA2.out.z.cell 2 rfl
  have q3 := HA2.out.z.cell 3 rfl
  clear h kB
  go_enter Try.func15, Try.ntmps15
  go_wp2
  obtain ⟨wC, hC⟩ : ∃ wX, wB.alloc (.cells #[.int .i64 st, .int .i64 ve, .int .i64 cl, .string inf, .slice none 0 0] 41) = wX := ⟨_, rfl⟩
  have kC : Keeps wB wC := by rw [← hC]; exact (Keeps.refl wB).alloc _
  have HT := Lib.hid (show CsAt (b + 2) (tabC st ve cl inf (.slice none 0 0)) wC by rw [← hz2, ← hC]; exact CsAt.made wB #[.int .i64 st, .int .i64 ve, .int .i64 cl, .string inf, .slice none 0 0] _ (by simp))
  have HX := Lib.hid (HA2.out.z.keeps kC)
  have HR := Lib.hid (HZ.out.z.keeps kC)
  have HIC := Lib.hid (HI.out.keeps kC)
  have HK := Lib.hid (HA2.out.k.trans kC)
  have HM := Lib.hid (show b + 2 < wC.heap.size by rw [← hC, World.size_alloc, hz2]; omega)
  rw [hC]
  clear q0 q1 q2 q3 hA hB hC hz hz2 kC hb
  obtain ⟨LQ, hLQ⟩ : ∃ LQ, l.map qSt = LQ := ⟨_, rfl⟩
  have HLN := Lib.hid (show LQ.length = n by rw [← hLQ, List.length_map]; exact HN.out.symm)
  have HLG := Lib.hid (fun (k : Nat) (h : k < l.length) => show LQ.take (k + 1) = LQ.take k ++ [qSt l[k]] by
    rw [← hLQ, List.take_add_one, List.getElem?_map, List.getElem?_eq_getElem h]; rfl)
  have HPP := Lib.hid (show ∀ x w', PlPost w st ve cl inf LQ x w' → PlPost w st ve cl inf (l.map qSt) x w' from fun _ _ h => by rw [hLQ]; exact h)
  clear hLQ
  go_loopw [4] (fun j wr => plRel wC (b + 2) st ve cl inf LQ j wr) (fun j _ => n - (intOf j).toNat)
  case atStart => exact ⟨0, .slice none 0 0, Nat.zero_le _, rfl, HT.out, OwnE.nil _ _, Foot.refl _ _, HM.out⟩
  case round =>
    obtain ⟨k, s, hk, rfl, hT⟩ := hrel
    rw [HLN.out] at hk
    have HTI := Lib.hid hT
    have p2 := (HX.out.foot hT.f (fun e => by omega)).cell 4 rfl
    have HIR := Lib.hid (HR.out.foot hT.f (fun e => by omega))
    clear hT
    by_cases hlt : k < n
    · have hlI : (k : Int) < (n : Int) := by omega
      have hkL : k < l.length := by have := HN.out; omega
      obtain ⟨g, off, rfl, hg, _⟩ := HI0.out.get hkL
      have hgb : g < b := by have := HB.out; omega
      have hnl : (LQ.take k).length = k := by rw [List.length_take, HLN.out]; omega
      obtain ⟨av, cs, hv, _, _⟩ := HTI.out.o.row16
      rw [hnl] at hv
      subst hv
      have HHL := Lib.hid hnl
      have HLL := Lib.hid (fun x => show (LQ.take k ++ [x]).length = k + 1 by rw [List.length_append, hnl]; rfl)
      have HLX := Lib.hid (HLG.out k hkL)
      have hrow := HIC.out.foot HTI.out.f (fun p hp (e : p.block = b + 2) => by cases hp; simp only at e; omega)
      obtain ⟨g', off', hgo, hg2, hcc⟩ := hrow.range hkL
      cases hgo
      obtain ⟨⟨s1, s2, s3⟩, hp⟩ : ∃ q : Strm, l[k] = q := ⟨_, rfl⟩
      rw [hp] at hcc HLX
      have HRG := Lib.hid (show wr.rangeAt g (off + k * 3) [.int .i64 s1, .int .i64 s2, .string s3] from hcc)
      obtain ⟨X, hX⟩ : ∃ X : Obj, Obj.cells #[.int .i64 s1, .int .i64 s2, .string s3] 50 = X := ⟨_, rfl⟩
      have HT5 := Lib.hid (HTI.out.keeps ((Keeps.refl wr).alloc X))
      have c4 := HT5.out.t.cell 4 rfl
      have y0 : (wr.alloc X).cell? ⟨wr.heap.size, 0, none⟩ = some (.int .i64 s1) := by rw [← hX, World.cell?_alloc_new]; rfl
      have y1 : (wr.alloc X).cell? ⟨wr.heap.size, 1, none⟩ = some (.int .i64 s2) := by rw [← hX, World.cell?_alloc_new]; rfl
      have y2 : (wr.alloc X).cell? ⟨wr.heap.size, 2, none⟩ = some (.string s3) := by rw [← hX, World.cell?_alloc_new]; rfl
      subst hX
      have wr1 := wrapI (a := (k : Int) + 1) (by omega) (by omega)
      clear hg hgb hnl hrow hg2 hcc hp
      go_wp2_with (first | (refine wpList_load_mid rfl _ _ rfl g (off + k * 3) rfl [.int .i64 s1, .int .i64 s2, .string s3] _ HRG.out Try.underlying50 rfl (by kernel_rfl) ?_) | (at_builtin; refine wp_pushE (T := rowQs) rfl _ _ rfl ⟨s1, s2, 0, s3⟩ #[.int .i64 s1, .int .i64 s2, .int .i64 0, .string s3] rfl _ (by simp only [World.size_alloc]) HT5.out.o rfl rfl (by rw [HHL.out]; omega) HT5.out.f.size 59 ?_; intro v6 w6 o6 g6 _; obtain ⟨a6, d6, hv6, _, _⟩ := o6.row16; rw [HLL.out _] at hv6; subst hv6; obtain ⟨ht6, hn6⟩ := (HT5.out.keeps ((Keeps.refl _).alloc (.cells #[.int .i64 s1, .int .i64 s2, .int .i64 0, .string s3] 59))).cat g6 o6; have HT6 := Lib.hid hn6; have c6 := ht6.cell 4 rfl; have f6 := ht6.fz 4 (by show 4 < 5; decide); clear ht6 hn6 o6 g6))
      go_roundw
      case rel => exact ⟨k + 1, _, by rw [HLN.out]; omega, by go_num, by rw [HLX.out]; exact HT6.out _ rfl⟩
      case measure => simp [intOf]; omega
    · have hlI : ¬ (k : Int) < (n : Int) := by omega
      have HF := Lib.hid (show LQ.take k = LQ from List.take_of_length_le (by rw [HLN.out]; omega))
      rw [HF.out] at HTI
      obtain ⟨a2, c2, hv, hi2, hb2⟩ := HTI.out.o.row16
      rw [HLN.out] at hv hi2
      subst hv
      have HBA := Lib.hid hb2
      have HI2 := Lib.hid hi2
      clear hi2 hb2
      go_wp2_with (first | (refine wp_ldTab (b := b + 2) HTI.out.t.r rfl _ rfl rfl ?_) | (refine wp_stTab (b := b + 1) st ve cl inf a2 n c2 (HIR.out.there (by decide)) rfl _ _ rfl rfl rfl ?_))
      have ho := only_setCells (b + 1) (tabC st ve cl inf (.slice a2 n c2)) 0 wr
      have hfo : Foot (fun k => k = b + 1) wr _ := ho.foot rfl
      have hpost : PlPost w st ve cl inf LQ (.returned (.agg #[.int .i64 st, .int .i64 ve, .int .i64 cl, .string inf, .slice a2 n c2])) (wr.setCells (b + 1) 0 (tabC st ve cl inf (.slice a2 n c2))) :=
        ⟨a2, c2, by rw [HLN.out], by rw [HLN.out]; exact HI2.out.foot hfo (fun p hp e => by have h1 := HBA.out p hp; have h2 := HM.out; omega), hfo.keeps (HTI.out.f.keeps HK.out (fun k e => by rw [e, HB.out]; omega)) (fun k e => by rw [e, HB.out]; omega)⟩
      exact cs_ret Try.results15 (lvTab (HIR.out.store (tabC st ve cl inf (.slice a2 n c2)) rfl).r) rfl rfl (HPP.out _ _ hpost)
end Go.Proofs.Ytebfihghfkcicaa
