/-
  What PlainPat and PlainPmt of layer 17's statements answer. The memory that was there stays.
-/
import Derived.Test.YtebfihghfkcicaaPsP
namespace Go.Proofs.Ytebfihghfkcicaa
open Go.RowKit Gf Ps
set_option maxRecDepth 100000
theorem once_kpq {wr W : World} {X : Obj} {n : Nat} {L : Nat → Bool} (h : Once n (Eqv wr) (Eqv (wr.alloc X)) L W) : Keeps wr W := by
  cases h4 : L n
  · exact (Keeps.refl wr).eqv (h.1 h4)
  · exact ((Keeps.refl wr).alloc X).eqv (h.2 h4)
def PlPost (w : World) (e v c : Int) (i : ByteArray) (l : List Qst) (x : Ending) (w' : World) : Prop := ∃ a cap, x = .returned (.agg #[.int .i64 e, .int .i64 v, .int .i64 c, .string i, .slice a l.length cap]) ∧ IsE rowQs w' a l.length l ∧ Keeps w w'
def plRel (wC : World) (b : Nat) (e v c : Int) (i : ByteArray) (L : List Qst) (j : Value) (wr : World) : Prop := ∃ (k : Nat) (s : Value), k ≤ L.length ∧ j = .int .i64 (k : Int) ∧ TabIn wC b e v c i s (L.take k) wr
set_option maxHeartbeats 6400000 in
theorem plpat_any (st ve : Int) {a : Option Addr} {n cap : Nat} {l : List (Int × Int)} (w : World) (h : IsE rowPr w a n l) (hn : n ≤ 1000000) :
    Calls Try.prog 13 #[.agg #[.int .i64 st, .int .i64 ve, .slice a n cap]] w (PlPost w st ve 0 ⟨#[]⟩ (l.map qPr)) := by
  obtain ⟨wA, hA⟩ : ∃ wX, w.alloc (.cells #[.int .i64 st, .int .i64 ve, .slice a n cap] 24) = wX := ⟨_, rfl⟩
  obtain ⟨b, hb⟩ : ∃ b, w.heap.size = b := ⟨_, rfl⟩
  have HA := Lib.hid (CsAns.start (Keeps.refl w) (a := #[.int .i64 st, .int .i64 ve, .slice a n cap]) (by simp) hb hA)
  have hz : wA.heap.size = b + 1 := by rw [← hA, World.size_alloc, hb]
  obtain ⟨wB, hB⟩ : ∃ wX, wA.alloc (.cells #[.int .i64 0, .int .i64 0, .int .i64 0, .string ⟨#[]⟩, .slice none 0 0] 41) = wX := ⟨_, rfl⟩
  have kB : Keeps wA wB := by rw [← hB]; exact (Keeps.refl wA).alloc _
  have hz2 : wB.heap.size = b + 2 := by rw [← hB, World.size_alloc, hz]
  have HA2 := Lib.hid (HA.out.keeps kB)
  have HZ := Lib.hid (CsAns.start (Keeps.refl wA) (a := #[.int .i64 0, .int .i64 0, .int .i64 0, .string ⟨#[]⟩, .slice none 0 0]) (by simp) hz hB)
  have HI0 := Lib.hid h
  have HI := Lib.hid (h.keeps HA2.out.k)
  have HN := Lib.hid h.1
  have HB := Lib.hid hb
  have q0 := HA2.out.z.cell 0 rfl
  have q1 := HA2.out.z.cell 1 rfl
  clear h kB
  go_enter Try.func13, Try.ntmps13
  go_wp2
  obtain ⟨wC, hC⟩ : ∃ wX, wB.alloc (.cells #[.int .i64 st, .int .i64 ve, .int .i64 0, .string ⟨#[]⟩, .slice none 0 0] 41) = wX := ⟨_, rfl⟩
  have kC : Keeps wB wC := by rw [← hC]; exact (Keeps.refl wB).alloc _
  have HT := Lib.hid (show CsAt (b + 2) (tabC st ve 0 ⟨#[]⟩ (.slice none 0 0)) wC by rw [← hz2, ← hC]; exact CsAt.made wB #[.int .i64 st, .int .i64 ve, .int .i64 0, .string ⟨#[]⟩, .slice none 0 0] _ (by simp))
  have HX := Lib.hid (HA2.out.z.keeps kC)
  have HR := Lib.hid (HZ.out.z.keeps kC)
  have HIC := Lib.hid (HI.out.keeps kC)
  have HK := Lib.hid (HA2.out.k.trans kC)
  have HM := Lib.hid (show b + 2 < wC.heap.size by rw [← hC, World.size_alloc, hz2]; omega)
  rw [hC]
  clear q0 q1 hA hB hC hz hz2 kC hb
  obtain ⟨LQ, hLQ⟩ : ∃ LQ, l.map qPr = LQ := ⟨_, rfl⟩
  have HLN := Lib.hid (show LQ.length = n by rw [← hLQ, List.length_map]; exact HN.out.symm)
  have HLG := Lib.hid (fun (k : Nat) (h : k < l.length) => show LQ.take (k + 1) = LQ.take k ++ [qPr l[k]] by
    rw [← hLQ, List.take_add_one, List.getElem?_map, List.getElem?_eq_getElem h]; rfl)
  have HPP := Lib.hid (show ∀ x w', PlPost w st ve 0 ⟨#[]⟩ LQ x w' → PlPost w st ve 0 ⟨#[]⟩ (l.map qPr) x w' from fun _ _ h => by rw [hLQ]; exact h)
  clear hLQ
  go_loopw [4] (fun j wr => plRel wC (b + 2) st ve 0 ⟨#[]⟩ LQ j wr) (fun j _ => n - (intOf j).toNat)
  case atStart => exact ⟨0, .slice none 0 0, Nat.zero_le _, rfl, HT.out, OwnE.nil _ _, Foot.refl _ _, HM.out⟩
  case round =>
    obtain ⟨k, s, hk, rfl, hT⟩ := hrel
    rw [HLN.out] at hk
    have HTI := Lib.hid hT
    have p2 := (HX.out.foot hT.f (fun e => by omega)).cell 2 rfl
    have HIR := Lib.hid (HR.out.foot hT.f (fun e => by omega))
    clear hT
    by_cases hlt : k < n
    · have hlI : (k : Int) < (n : Int) := by omega
      have hkL : k < l.length := by have := HN.out; omega
      obtain ⟨g, off, rfl, hg, _⟩ := HI0.out.get hkL
      have hgb : g < b := by have := HB.out; omega
      have hnl : (LQ.take k).length = k := by rw [List.length_take, HLN.out]; omega
      obtain ⟨av, cs, hv, _, _⟩ := HTI.out.o.row16
      rw [hnl] at hv
      subst hv
      have HHL := Lib.hid hnl
      have HLL := Lib.hid (fun x => show (LQ.take k ++ [x]).length = k + 1 by rw [List.length_append, hnl]; rfl)
      have HLX := Lib.hid (HLG.out k hkL)
      have hrow := HIC.out.foot HTI.out.f (fun p hp (e : p.block = b + 2) => by cases hp; simp only at e; omega)
      obtain ⟨g', off', hgo, hg2, hcc⟩ := hrow.get hkL
      cases hgo
      obtain ⟨⟨p1, p3⟩, hp⟩ : ∃ q : Int × Int, l[k] = q := ⟨_, rfl⟩
      rw [hp] at hcc HLX
      have HP1 := Lib.hid (fun W (q : Keeps wr W) => show W.cell? ⟨g, off + k * 2, none⟩ = some (.int .i64 p1) from (Below.cell q (p := ⟨g, off + k * 2, none⟩) hg2).trans (hcc 0 _ rfl))
      have HP3 := Lib.hid (fun W (q : Keeps wr W) => show W.cell? ⟨g, off + k * 2 + 1, none⟩ = some (.int .i64 p3) from (Below.cell q (p := ⟨g, off + k * 2 + 1, none⟩) hg2).trans (by rw [Nat.add_assoc]; exact hcc 1 _ rfl))
      have HS4 := Lib.hid (fun W (q : Keeps wr W) => show W.cell? ⟨b + 2, 4, none⟩ = some (.slice av k cs) from (HTI.out.t.keeps q).cell 4 rfl)
      have HX2 := Lib.hid (fun W (q : Keeps wr W) => show W.cell? ⟨b, 2, none⟩ = some (.slice (some ⟨g, off, none⟩) n cap) from ((HX.out.foot HTI.out.f (fun e => by omega)).keeps q).cell 2 rfl)
      have wr1 := wrapI (a := (k : Int) + 1) (by omega) (by omega)
      obtain ⟨X, hX⟩ : ∃ X : Obj, X = .cells #[.int .i64 0, .int .i64 p1, .int .i64 p3, .string ⟨#[]⟩] 59 := ⟨_, rfl⟩
      have HXX := Lib.hid hX
      have HGN := Lib.hid hgb
      clear hX hg hgb hnl hrow hg2 hcc hp
      go_wp2
      refine wp_draw_tail 16 (by kernel_rfl) [.pointer (some ⟨b + 2, 4, none⟩), .slice av k cs, .pointer (some ⟨b, 2, none⟩), .slice (some ⟨g, off, none⟩) n cap, .int .i64 (k : Int), .pointer (some ⟨g, off + k * 2, none⟩), .pointer (some ⟨g, off + k * 2, none⟩), .int .i64 p1, .pointer (some ⟨b, 2, none⟩), .slice (some ⟨g, off, none⟩) n cap, .int .i64 (k : Int), .pointer (some ⟨g, off + k * 2, none⟩), .pointer (some ⟨g, off + k * 2 + 1, none⟩), .int .i64 p3, .agg #[.int .i64 0, .int .i64 p1, .int .i64 p3, .string ⟨#[]⟩], .slice (some ⟨wr.heap.size, 0, none⟩) 1 1]
        (Once 15 (Eqv wr) (Eqv (wr.alloc X))) rfl (by kernel_rfl) (by kernel_rfl) (fin := ?fin0) ?hfin0 (Once.start (Eqv.drew wr)) ?each0 ?hend0
      case hfin0 => simp [seqA, dstOf, Act.put]; rfl
      case each0 =>
        refine ⟨?_, ?_, ?_, ?_, ?_, ?_, ?_, ?_, ?_, ?_, ?_, ?_, ?_, ?_, ?_, ?_, trivial⟩
        all_goals intro L w5 h0 hd hs hw
        all_goals unfold Does
        all_goals try simp only [Nat.zero_add, Nat.reduceAdd] at h0
        rotate_left 15
        · have hA := hw.1 h0
          have hz := hA.size
          go_simp
          exact fun L' k => Once.done k (by rw [HXX.out]; exact hA.alloc _)
        all_goals have hke := once_kpq hw
        all_goals have c1 := HP1.out w5 hke
        all_goals have c3 := HP3.out w5 hke
        all_goals have c4 := HS4.out w5 hke
        all_goals have c5 := HX2.out w5 hke
        all_goals go_simp
        all_goals exact fun L' k => hw.same (by decide) k
      case hend0 =>
      intro L w5 hL hw
      obtain ⟨w5, rfl, he⟩ := (hw.2 (hL 15 (by omega))).split
      clear hL hw
      rw [HXX.out, ← he.size]
      simp only [List.drop_succ_cons, List.drop_zero]
      have HT5 := Lib.hid (HTI.out.keeps ((Keeps.refl wr).eqv he))
      clear he p2
      go_wp2_with (at_builtin; refine wp_pushE (T := rowQs) rfl _ _ rfl ⟨0, p1, p3, ⟨#[]⟩⟩ #[.int .i64 0, .int .i64 p1, .int .i64 p3, .string ⟨#[]⟩] rfl w5.heap.size rfl HT5.out.o rfl rfl (by rw [HHL.out]; omega) HT5.out.f.size 59 ?_; intro v6 w6 o6 g6 _; obtain ⟨a6, d6, hv6, _, _⟩ := o6.row16; rw [HLL.out _] at hv6; subst hv6; obtain ⟨ht6, hn6⟩ := (HT5.out.keeps ((Keeps.refl w5).alloc (.cells #[.int .i64 0, .int .i64 p1, .int .i64 p3, .string ⟨#[]⟩] 59))).cat g6 o6; have HT6 := Lib.hid hn6; have c6 := ht6.cell 4 rfl; have f6 := ht6.fz 4 (by show 4 < 5; decide); clear ht6 hn6 o6 g6)
      go_roundw
      case rel => exact ⟨k + 1, _, by rw [HLN.out]; omega, by go_num, by rw [HLX.out]; exact HT6.out _ rfl⟩
      case measure => simp [intOf]; omega
    · have hlI : ¬ (k : Int) < (n : Int) := by omega
      have HF := Lib.hid (show LQ.take k = LQ from List.take_of_length_le (by rw [HLN.out]; omega))
      rw [HF.out] at HTI
      obtain ⟨a2, c2, hv, hi2, hb2⟩ := HTI.out.o.row16
      rw [HLN.out] at hv hi2
      subst hv
      have HBA := Lib.hid hb2
      have HI2 := Lib.hid hi2
      clear hi2 hb2
      go_wp2_with (first | (refine wp_ldTab (b := b + 2) HTI.out.t.r rfl _ rfl rfl ?_) | (refine wp_stTab (b := b + 1) st ve 0 ⟨#[]⟩ a2 n c2 (HIR.out.there (by decide)) rfl _ _ rfl rfl rfl ?_))
      have ho := only_setCells (b + 1) (tabC st ve 0 ⟨#[]⟩ (.slice a2 n c2)) 0 wr
      have hfo : Foot (fun k => k = b + 1) wr _ := ho.foot rfl
      have hpost : PlPost w st ve 0 ⟨#[]⟩ LQ (.returned (.agg #[.int .i64 st, .int .i64 ve, .int .i64 0, .string ⟨#[]⟩, .slice a2 n c2])) (wr.setCells (b + 1) 0 (tabC st ve 0 ⟨#[]⟩ (.slice a2 n c2))) :=
        ⟨a2, c2, by rw [HLN.out], by rw [HLN.out]; exact HI2.out.foot hfo (fun p hp e => by have h1 := HBA.out p hp; have h2 := HM.out; omega), hfo.keeps (HTI.out.f.keeps HK.out (fun k e => by rw [e, HB.out]; omega)) (fun k e => by rw [e, HB.out]; omega)⟩
      exact cs_ret Try.results13 (lvTab (HIR.out.store (tabC st ve 0 ⟨#[]⟩ (.slice a2 n c2)) rfl).r) rfl rfl (HPP.out _ _ hpost)
end Go.Proofs.Ytebfihghfkcicaa
