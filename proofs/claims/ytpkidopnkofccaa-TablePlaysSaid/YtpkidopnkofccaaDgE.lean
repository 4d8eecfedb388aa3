/-
  What Make4 and Make6 of package datagram answer, and the document's. The memory that was there stays.
-/
import Derived.Test.YtpkidopnkofccaaDgA
import Derived.Test.YtpkidopnkofccaaBase
namespace Go.Proofs.Ytpkidopnkofccaa
open Go.RowKit Gf Dg
set_option maxRecDepth 100000
/-- The error of a datagram that is to be made. -/
def mk (p k : Int) : Int := if p < 0 ∨ 256 ≤ p then 1 else if 4080 < k then 15 else 0
theorem pr_u (k : Nat) (h : k ≤ 65535) : ((pr k).map B).toArray = #[.int .u8 ((k : Int) / 256), .int .u8 ((k : Int) % 256)] := by
  unfold pr B
  rw [List.map_cons, List.map_cons, List.map_nil, UInt8.toNat_ofNat_of_lt' (show k / 256 < 256 by omega), UInt8.toNat_ofNat']
  rfl
theorem pr_conv (k : Nat) (hk : k ≤ 65535) (w : World) :
    (convert 40 9 (.slice (some ⟨w.heap.size, 0, none⟩) 2 2)).run Try.prog (w.alloc (.cells #[.int .u8 ((k : Int) / 256), .int .u8 ((k : Int) % 256)] 5)) = .ok (.string (st (pr k))) (w.alloc (.cells #[.int .u8 ((k : Int) / 256), .int .u8 ((k : Int) % 256)] 5)) := by
  have h := (Blk.lit w (pr k) 5).whole 2 (pr_length k).symm
  rw [pr_u k hk] at h
  exact h
/-- Of a region that draws and lays one literal (operation j, in block γ): what was there stays, and the literal is there. -/
structure PJ (w1 : World) (j : Nat) (l : List UInt8) (γ : Nat) (L : Nat → Bool) (W : World) : Prop where
  kp : Keeps w1 W
  blk : L j = true → Blk γ l W
theorem PJ.same {w1 : World} {j : Nat} {l : List UInt8} {γ : Nat} {L L' : Nat → Bool} {W : World} (h : PJ w1 j l γ L W) {i : Nat} (hn : j ≠ i) (k : ∀ x, L' x = true ↔ (L x = true ∨ x = i)) : PJ w1 j l γ L' W :=
  ⟨h.kp, fun x => h.blk (same_at k hn ▸ x)⟩
theorem PJ.on {w1 : World} {j : Nat} {l : List UInt8} {γ : Nat} {L L' : Nat → Bool} {W W' : World} (h : PJ w1 j l γ L W) {i : Nat} (hn : j ≠ i) (k : ∀ x, L' x = true ↔ (L x = true ∨ x = i)) (hk : Keeps W W') : PJ w1 j l γ L' W' :=
  ⟨h.kp.trans hk, fun x => (h.blk (same_at k hn ▸ x)).below hk⟩
theorem PJ.made {w1 : World} {j : Nat} {l : List UInt8} {γ : Nat} {L L' : Nat → Bool} {W : World} (h : PJ w1 j l γ L W) (_k : ∀ x, L' x = true ↔ (L x = true ∨ x = j)) (t : TypeId) : PJ w1 j l W.heap.size L' (W.alloc (.cells (l.map B).toArray t)) :=
  ⟨h.kp.alloc _, fun _ => Blk.lit W l t⟩
def vs6 (b N P p : Value) (s2 s3 s7 s8 s9 : ByteArray) (γ : Nat) : List Value :=
  [b, N, .string s2, .string s3, P, p, .slice (some ⟨γ, 0, none⟩) 1 1, .string s7, .string s8, .string s9, .string s9]
theorem vs6_same {b N P p : Value} {s2 s3 s7 s8 s9 : ByteArray} {γ γ' : Nat} {L : Nat → Bool} (h : L 6 = false) : ∀ j, L j = true → (vs6 b N P p s2 s3 s7 s8 s9 γ').getD j undef = (vs6 b N P p s2 s3 s7 s8 s9 γ).getD j undef
  | 0, _ => rfl
  | 1, _ => rfl
  | 2, _ => rfl
  | 3, _ => rfl
  | 4, _ => rfl
  | 5, _ => rfl
  | 6, k => by rw [h] at k; cases k
  | n + 7, _ => rfl
/-- What is made, and what is wrong. -/
def mkR (p k : Int) (l : List UInt8) : Value := if mk p k = 0 then .tuple #[.string (st l), .int .i64 0] else .tuple #[.string (st []), .int .i64 (mk p k)]
def MkPost (w0 : World) (p k : Int) (l : List UInt8) (e : Ending) (w' : World) : Prop := e = .returned (mkR p k l) ∧ Keeps w0 w'
end Go.Proofs.Ytpkidopnkofccaa
namespace Go.Proofs.Ytpkidopnkofccaa
open Go.RowKit Gf Dg
set_option maxRecDepth 100000
/-- Block b holds the bytes L as ints. -/
def Ints (b : Nat) (L : List UInt8) (W : World) : Prop := b < W.heap.size ∧ ∀ i, i < L.length → W.cell? ⟨b, i, none⟩ = some (.int .i64 ((cf L i).toNat : Int))
theorem Ints.keeps {b : Nat} {L : List UInt8} {W W' : World} (h : Ints b L W) (k : Keeps W W') : Ints b L W' :=
  ⟨Nat.lt_of_lt_of_le h.1 (Below.size k), fun i hi => (Below.cell k (p := ⟨b, i, none⟩) h.1).trans (h.2 i hi)⟩
def I64 (x : UInt8) : Value := .int .i64 (x.toNat : Int)
theorem Ints.lit (w : World) (L : List UInt8) (t : TypeId) : Ints w.heap.size L (w.alloc (.cells (L.map I64).toArray t)) := by
  refine ⟨by simp, fun i hi => ?_⟩
  rw [World.cell?_alloc_new, List.getElem?_toArray, List.getElem?_map, List.getElem?_eq_getElem hi, cf_lt hi]; rfl
def dtxRel (w : World) (L : List UInt8) (s i : Value) (wr : World) : Prop := ∃ k : Nat, k ≤ L.length ∧ s = .string (st (L.take k)) ∧ i = .int .i64 (k : Int) ∧ Keeps w wr
theorem one_conv (x : UInt8) (w : World) : (convert 40 9 (.slice (some ⟨w.heap.size, 0, none⟩) 1 1)).run Try.prog (w.alloc (.cells #[.int .u8 (x.toNat : Int)] 5)) = .ok (.string (st [x])) (w.alloc (.cells #[.int .u8 (x.toNat : Int)] 5)) :=
  (Blk.lit w [x] 5).whole 1 (n := 1) rfl
set_option maxHeartbeats 800000 in
theorem dgrtext_any (w0 : World) (b len cap : Nat) (L : List UInt8) (w : World) (hn : len = L.length) (hl : L.length ≤ 1000) (hI : Ints b L w) (hk : Keeps w0 w) :
    Calls Try.prog 49 #[.slice (some ⟨b, 0, none⟩) len cap] w fun e w' => e = .returned (.string (st L)) ∧ Keeps w0 w' := by
  subst hn
  go_enter Try.func49, Try.ntmps49
  go_wp2
  go_loopw [3, 4] (fun s i wr => dtxRel w L s i wr) (fun _ i _ => L.length - (intOf i).toNat)
  case atStart => exact ⟨0, by omega, rfl, rfl, Keeps.refl _⟩
  case round =>
    obtain ⟨k, hk2, rfl, rfl, hkp⟩ := hrel
    by_cases hlt : k < L.length
    · have hc := (hI.keeps hkp).2 k hlt
      have HT := Lib.hid (show st (L.take k) ++ st [cf L k] = st (L.take (k + 1)) by rw [st_append, take_one hlt])
      have hz : (st (L.take k)).size ≤ 1000 := by rw [st_size, List.length_take]; omega
      obtain ⟨x, hx⟩ : ∃ x, cf L k = x := ⟨_, rfl⟩
      rw [hx] at hc HT
      have hx8 := u8_bd x
      have hcv := one_conv x wr
      have hz1 : (st [x]).size = 1 := rfl
      have e8 : (x.toNat : Int) % 256 = (x.toNat : Int) := by omega
      clear hx
      go_wp2
      go_roundw
      case rel => exact ⟨k + 1, by omega, by rw [HT.out], by go_num, hkp.alloc _⟩
      case measure => simp [intOf]; omega
    · have HE := Lib.hid (show L.take k = L from List.take_of_length_le (by omega))
      rw [HE.out]
      go_wp2
      go_ret
      exact ⟨rfl, hk.trans hkp⟩
theorem pr_i (k : Nat) (h : k ≤ 65535) : (pr k).map I64 = [.int .i64 ((k : Int) / 256), .int .i64 ((k : Int) % 256)] := by
  unfold pr I64
  rw [List.map_cons, List.map_cons, List.map_nil, UInt8.toNat_ofNat_of_lt' (show k / 256 < 256 by omega), UInt8.toNat_ofNat']
  rfl
theorem ahead6_i (p : UInt8) (k : Nat) (h : k ≤ 65535) : ((ahead6 p k).map I64).toArray = #[.int .i64 96, .int .i64 0, .int .i64 0, .int .i64 0, .int .i64 ((k : Int) / 256), .int .i64 ((k : Int) % 256), .int .i64 (p.toNat : Int), .int .i64 64] := by
  unfold ahead6
  rw [List.map_append, List.map_append, pr_i k h]; rfl
theorem ahead4_i (p : UInt8) (k : Nat) (h : k ≤ 65535) : ((ahead4 p k).map I64).toArray = #[.int .i64 69, .int .i64 0, .int .i64 ((k : Int) / 256), .int .i64 ((k : Int) % 256), .int .i64 0, .int .i64 0, .int .i64 0, .int .i64 0, .int .i64 64, .int .i64 (p.toNat : Int)] := by
  unfold ahead4
  rw [List.map_append, List.map_append, pr_i k h]; rfl
theorem pr2_i (k : Nat) (h : k ≤ 65535) : ((pr k).map I64).toArray = #[.int .i64 ((k : Int) / 256), .int .i64 ((k : Int) % 256)] := by rw [pr_i k h]
theorem mk_lo {p k : Int} (h : p < 0) : mk p k = 1 := by unfold mk; rw [if_pos (.inl h)]
theorem mk_hi {p k : Int} (h : 255 < p) : mk p k = 1 := by unfold mk; rw [if_pos (.inr (by omega))]
theorem mk_long {p k : Int} (h0 : ¬ p < 0) (h1 : ¬ 255 < p) (h : 4080 < k) : mk p k = 15 := by unfold mk; rw [if_neg (by omega), if_pos h]
theorem mk_ok {p k : Int} (h0 : ¬ p < 0) (h1 : ¬ 255 < p) (h : ¬ 4080 < k) : mk p k = 0 := by unfold mk; rw [if_neg (by omega), if_neg h]
theorem mkR_no {p k e : Int} {l : List UInt8} (h : mk p k = e) (he : e ≠ 0) : mkR p k l = .tuple #[.string (st []), .int .i64 e] := by unfold mkR; rw [h, if_neg he]
theorem mkR_ok {p k : Int} {l : List UInt8} (h : mk p k = 0) : mkR p k l = .tuple #[.string (st l), .int .i64 0] := by unfold mkR; rw [if_pos h]
set_option maxHeartbeats 1600000 in
theorem dgrmake4_any (w0 : World) (f t b : List UInt8) (hf : f.length = 4) (ht : t.length = 4) (p : Int) (w : World) (hb : b.length ≤ 1000000) (hk : Keeps w0 w) :
    Calls Try.prog 41 #[.string (st f), .string (st t), .int .i64 p, .string (st b)] w (MkPost w0 p (20 + (b.length : Int)) (make4 f t (UInt8.ofNat p.toNat) b)) := by
  have hbs : (st b).size = b.length := st_size b
  by_cases h0 : p < 0
  · have HM := Lib.hid (mkR_no (l := make4 f t (UInt8.ofNat p.toNat) b) (mk_lo (k := 20 + (b.length : Int)) h0) (by decide))
    go_enter Try.func41, Try.ntmps41
    go_wp2
    go_ret2
    exact ⟨by rw [HM.out]; rfl, hk⟩
  · by_cases h1 : 255 < p
    · have HM := Lib.hid (mkR_no (l := make4 f t (UInt8.ofNat p.toNat) b) (mk_hi (k := 20 + (b.length : Int)) h1) (by decide))
      go_enter Try.func41, Try.ntmps41
      go_wp2
      go_ret2
      exact ⟨by rw [HM.out]; rfl, hk⟩
    · by_cases h2 : 4080 < 20 + (b.length : Int)
      · have HM := Lib.hid (mkR_no (l := make4 f t (UInt8.ofNat p.toNat) b) (mk_long h0 h1 h2) (by decide))
        go_enter Try.func41, Try.ntmps41
        go_wp2
        go_ret2
        exact ⟨by rw [HM.out]; rfl, hk⟩
      · have HM := Lib.hid (mkR_ok (l := make4 f t (UInt8.ofNat p.toNat) b) (mk_ok h0 h1 h2))
        obtain ⟨p8, hp8⟩ := u8_of (n := p) (by omega)
        obtain ⟨m, hm⟩ : ∃ m, 20 + b.length = m := ⟨_, rfl⟩
        have hmi : 20 + (b.length : Int) = (m : Int) := by omega
        have hm2 : m ≤ 4080 := by omega
        have HO := Lib.hid (show make4 f t (UInt8.ofNat p.toNat) b = ahead4 p8 m ++ pr (csum (ahead4 p8 m ++ (f ++ t))).toNat ++ (f ++ t) ++ b by rw [hp8, Int.toNat_natCast, UInt8.ofNat_toNat]; unfold make4 head4; rw [hm])
        have HI := Lib.hid (show Ints w.heap.size (ahead4 p8 m) (w.alloc (.cells #[.int .i64 69, .int .i64 0, .int .i64 ((m : Int) / 256), .int .i64 ((m : Int) % 256), .int .i64 0, .int .i64 0, .int .i64 0, .int .i64 0, .int .i64 64, .int .i64 p] 3)) by
          rw [hp8, ← ahead4_i p8 m (by omega)]; exact Ints.lit w _ _)
        have hz1 : (st f).size = 4 := by rw [st_size, hf]
        have hz2 : (st t).size = 4 := by rw [st_size, ht]
        have hb5 : b.length ≤ 4060 := by omega
        rw [hmi] at h2
        clear hp8 hm hf ht
        go_enter Try.func41, Try.ntmps41
        go_wp2_with fail
        refine (dgrtext_any w0 _ 10 _ (ahead4 p8 m) _ rfl (by rw [show (ahead4 p8 m).length = 10 from rfl]; omega) HI.out (hk.alloc _)).mono ?_
        rintro e w1 ⟨rfl, hk1⟩
        obtain ⟨q, hq⟩ : ∃ q, st (ahead4 p8 m) = q := ⟨_, rfl⟩
        have hz : q.size = 10 := by rw [← hq]; rfl
        rw [hq]
        obtain ⟨a1, ha1⟩ : ∃ x, q ++ (⟨#[0, 0]⟩ : ByteArray) = x := ⟨_, rfl⟩
        have hza : a1.size = 12 := by rw [← ha1, ByteArray.size_append, hz]; rfl
        obtain ⟨a2, ha2⟩ : ∃ x, a1 ++ st f = x := ⟨_, rfl⟩
        have hzb : a2.size = 16 := by rw [← ha2, ByteArray.size_append, hza, hz1]
        obtain ⟨a3, ha3⟩ : ∃ x, a2 ++ st t = x := ⟨_, rfl⟩
        have hzc : a3.size = 20 := by rw [← ha3, ByteArray.size_append, hzb, hz2]
        have HS := Lib.hid (show csum (ls a3) = csum (ahead4 p8 m ++ (f ++ t)) by
          rw [← ha3, ← ha2, ← ha1, ← hq]
          show csum (ls (st (ahead4 p8 m) ++ st [0, 0] ++ st f ++ st t)) = _
          rw [st_append, st_append, st_append, ls_st, List.append_assoc (ahead4 p8 m ++ [0, 0]), csum_zeros (ahead4 p8 m) (f ++ t) (by rw [ahead4_length])])
        have HQ := Lib.hid hq
        clear hq
        go_wp2_with fail
        refine (dgrsum_any a3 w1 (by omega)).mono ?_
        rintro e w2 ⟨rfl, rfl⟩
        rw [HS.out]
        clear ha1 ha2 ha3 hza hzb hzc
        obtain ⟨c1, c2⟩ := csum_bd (ahead4 p8 m ++ (f ++ t))
        obtain ⟨c, hc⟩ : ∃ c, csum (ahead4 p8 m ++ (f ++ t)) = c := ⟨_, rfl⟩
        rw [hc] at HO c1 c2
        rw [hc]
        obtain ⟨cn, rfl⟩ : ∃ n : Nat, c = (n : Int) := ⟨c.toNat, by omega⟩
        have HI2 := Lib.hid (show Ints w1.heap.size (pr cn) (w1.alloc (.cells #[.int .i64 ((cn : Int) / 256), .int .i64 ((cn : Int) % 256)] 3)) by
          rw [← pr2_i cn (by omega)]; exact Ints.lit w1 _ _)
        clear hc
        go_wp2_with fail
        refine (dgrtext_any w0 _ 2 _ (pr cn) _ rfl (by rw [pr_length]; omega) HI2.out (hk1.alloc _)).mono ?_
        rintro e w3 ⟨rfl, hk3⟩
        obtain ⟨r, hr⟩ : ∃ r, st (pr cn) = r := ⟨_, rfl⟩
        have hzr : r.size = 2 := by rw [← hr]; rfl
        rw [hr]
        obtain ⟨a1, ha1⟩ : ∃ x, q ++ r = x := ⟨_, rfl⟩
        have hza : a1.size = 12 := by rw [← ha1, ByteArray.size_append, hz, hzr]
        obtain ⟨a2, ha2⟩ : ∃ x, a1 ++ st f = x := ⟨_, rfl⟩
        have hzb : a2.size = 16 := by rw [← ha2, ByteArray.size_append, hza, hz1]
        obtain ⟨a3, ha3⟩ : ∃ x, a2 ++ st t = x := ⟨_, rfl⟩
        have hzc : a3.size = 20 := by rw [← ha3, ByteArray.size_append, hzb, hz2]
        have HA := Lib.hid (show a3 ++ st b = st (make4 f t (UInt8.ofNat p.toNat) b) by
          rw [← ha3, ← ha2, ← ha1, ← HQ.out, ← hr, HO.out, Int.toNat_natCast, st_append, st_append, st_append, st_append]; simp)
        clear hr
        go_wp2
        go_ret2
        exact ⟨by rw [HM.out, ← HA.out]; rfl, hk3⟩
end Go.Proofs.Ytpkidopnkofccaa
