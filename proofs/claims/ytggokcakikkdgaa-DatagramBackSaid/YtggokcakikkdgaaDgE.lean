/-
  What Make4 and Make6 of package datagram answer: for bodies of up to a million bytes. The memory that was there stays.
-/
import Derived.Test.YtggokcakikkdgaaDgD
import Derived.Test.YtggokcakikkdgaaDrawH
namespace Go.Proofs.Ytggokcakikkdgaa
open Go.RowKit Gf Dg
set_option maxRecDepth 100000
/-- The error of a datagram that is to be made. -/
def mk (p k : Int) : Int := if p < 0 ∨ 256 ≤ p then 1 else if 4080 < k then 15 else 0
set_option maxHeartbeats 400000 in
theorem dgmaymake_any (p k : Int) (w : World) :
    Calls Try.prog 30 #[.int .i64 p, .int .i64 k] w fun e w' => e = .returned (.int .i64 (mk p k)) ∧ w = w' := by
  by_cases h1 : p < 0
  · have HM := Lib.hid (show mk p k = 1 by unfold mk; rw [if_pos (.inl h1)])
    go_enter Try.func30, Try.ntmps30
    go_wp2
    go_ret
    exact ⟨by rw [HM.out]; rfl, rfl⟩
  · by_cases h2 : 256 ≤ p
    · have HM := Lib.hid (show mk p k = 1 by unfold mk; rw [if_pos (.inr h2)])
      go_enter Try.func30, Try.ntmps30
      go_wp2
      go_ret
      exact ⟨by rw [HM.out]; rfl, rfl⟩
    · by_cases h3 : 4080 < k
      · have HM := Lib.hid (show mk p k = 15 by unfold mk; rw [if_neg (by omega), if_pos h3])
        go_enter Try.func30, Try.ntmps30
        go_wp2
        go_ret
        exact ⟨by rw [HM.out]; rfl, rfl⟩
      · have HM := Lib.hid (show mk p k = 0 by unfold mk; rw [if_neg (by omega), if_neg h3])
        go_enter Try.func30, Try.ntmps30
        go_wp2
        go_ret
        exact ⟨by rw [HM.out]; rfl, rfl⟩
theorem pr_u (k : Nat) (h : k ≤ 65535) : ((pr k).map B).toArray = #[.int .u8 ((k : Int) / 256), .int .u8 ((k : Int) % 256)] := by
  unfold pr B
  rw [List.map_cons, List.map_cons, List.map_nil, UInt8.toNat_ofNat_of_lt' (show k / 256 < 256 by omega), UInt8.toNat_ofNat']
  rfl
theorem pr_conv (k : Nat) (hk : k ≤ 65535) (w : World) :
    (convert 45 9 (.slice (some ⟨w.heap.size, 0, none⟩) 2 2)).run Try.prog (w.alloc (.cells #[.int .u8 ((k : Int) / 256), .int .u8 ((k : Int) % 256)] 5)) = .ok (.string (st (pr k))) (w.alloc (.cells #[.int .u8 ((k : Int) / 256), .int .u8 ((k : Int) % 256)] 5)) := by
  have h := (Blk.lit w (pr k) 5).whole 2 (pr_length k).symm
  rw [pr_u k hk] at h
  exact h
set_option maxHeartbeats 400000 in
theorem dgpair_any (w0 : World) (k : Int) (m : Nat) (w : World) (hm : k = (m : Int)) (hm2 : m ≤ 65535) (hk : Keeps w0 w) :
    Calls Try.prog 31 #[.int .i64 k] w fun e w' => e = .returned (.string (st (pr m))) ∧ Keeps w0 w' := by
  have hcv := pr_conv m hm2 w
  have h0 : 0 ≤ k := by omega
  have h1 : k ≤ 65535 := by omega
  have e1 : k / 256 % 256 = k / 256 := by omega
  rw [← hm] at hcv
  clear hm
  go_enter Try.func31, Try.ntmps31
  go_wp2
  go_ret
  exact ⟨rfl, hk.alloc _⟩
/-- Of a region that draws and lays one literal (operation j, in block γ): what was there stays, and the literal is there. -/
structure PJ (w1 : World) (j : Nat) (l : List UInt8) (γ : Nat) (L : Nat → Bool) (W : World) : Prop where
  kp : Keeps w1 W
  blk : L j = true → Blk γ l W
theorem PJ.same {w1 : World} {j : Nat} {l : List UInt8} {γ : Nat} {L L' : Nat → Bool} {W : World} (h : PJ w1 j l γ L W) {i : Nat} (hn : j ≠ i) (k : ∀ x, L' x = true ↔ (L x = true ∨ x = i)) : PJ w1 j l γ L' W :=
  ⟨h.kp, fun x => h.blk (same_at k hn ▸ x)⟩
theorem PJ.on {w1 : World} {j : Nat} {l : List UInt8} {γ : Nat} {L L' : Nat → Bool} {W W' : World} (h : PJ w1 j l γ L W) {i : Nat} (hn : j ≠ i) (k : ∀ x, L' x = true ↔ (L x = true ∨ x = i)) (hk : Keeps W W') : PJ w1 j l γ L' W' :=
  ⟨h.kp.trans hk, fun x => (h.blk (same_at k hn ▸ x)).below hk⟩
theorem PJ.made {w1 : World} {j : Nat} {l : List UInt8} {γ : Nat} {L L' : Nat → Bool} {W : World} (h : PJ w1 j l γ L W) (_k : ∀ x, L' x = true ↔ (L x = true ∨ x = j)) (t : TypeId) : PJ w1 j l W.heap.size L' (W.alloc (.cells (l.map B).toArray t)) :=
  ⟨h.kp.alloc _, fun _ => Blk.lit W l t⟩
def vs6 (b N P p : Value) (s2 s3 s7 s8 s9 : ByteArray) (γ : Nat) : List Value :=
  [b, N, .string s2, .string s3, P, p, .slice (some ⟨γ, 0, none⟩) 1 1, .string s7, .string s8, .string s9, .string s9]
theorem vs6_same {b N P p : Value} {s2 s3 s7 s8 s9 : ByteArray} {γ γ' : Nat} {L : Nat → Bool} (h : L 6 = false) : ∀ j, L j = true → (vs6 b N P p s2 s3 s7 s8 s9 γ').getD j undef = (vs6 b N P p s2 s3 s7 s8 s9 γ).getD j undef
  | 0, _ => rfl
  | 1, _ => rfl
  | 2, _ => rfl
  | 3, _ => rfl
  | 4, _ => rfl
  | 5, _ => rfl
  | 6, k => by rw [h] at k; cases k
  | n + 7, _ => rfl
/-- What is made, and what is wrong. -/
def mkR (p k : Int) (l : List UInt8) : Value := if mk p k = 0 then .tuple #[.string (st l), .int .i64 0] else .tuple #[.string (st []), .int .i64 (mk p k)]
def MkPost (w0 : World) (p k : Int) (l : List UInt8) (e : Ending) (w' : World) : Prop := e = .returned (mkR p k l) ∧ Keeps w0 w'
set_option maxHeartbeats 1600000 in
theorem dgmake6_any (w0 : World) (f t b : List UInt8) (FA TA : Array Value) (hFA : (f.map B).toArray = FA) (hTA : (t.map B).toArray = TA) (hf : f.length = 16) (ht : t.length = 16) (p : Int) (w : World) (hb : b.length ≤ 1000000) (hk : Keeps w0 w) :
    Calls Try.prog 18 #[.agg FA, .agg TA, .int .i64 p, .string (st b)] w (MkPost w0 p (40 + (b.length : Int)) (make6 f t (UInt8.ofNat p.toNat) b)) := by
  have hbs : (st b).size = b.length := st_size b
  by_cases h0 : mk p (40 + (b.length : Int)) = 0
  · have hb2 : ¬ (p < 0 ∨ 256 ≤ p) ∧ 40 + (b.length : Int) ≤ 4080 := by
      unfold mk at h0
      split at h0
      · cases h0
      · split at h0
        · cases h0
        · omega
    obtain ⟨p8, hp8⟩ := u8_of (n := p) (by omega)
    subst hp8
    have HM := Lib.hid (show mkR (p8.toNat : Int) (40 + (b.length : Int)) (make6 f t (UInt8.ofNat ((p8.toNat : Int)).toNat) b) = .tuple #[.string (st (make6 f t p8 b)), .int .i64 0] by
      unfold mkR; rw [if_pos h0, Int.toNat_natCast, UInt8.ofNat_toNat])
    have hbF : Blk w.heap.size f ((w.alloc (.cells FA 41)).alloc (.cells TA 41)) := by
      rw [← hFA, ← hTA]; exact (Blk.lit w f _).below ((Keeps.refl _).alloc _)
    have hbT : Blk (w.heap.size + 1) t ((w.alloc (.cells FA 41)).alloc (.cells TA 41)) := by
      rw [← hFA, ← hTA]
      have := Blk.lit (w.alloc (.cells (f.map B).toArray 41)) t 41
      rwa [World.size_alloc] at this
    have hkA : Keeps w0 ((w.alloc (.cells FA 41)).alloc (.cells TA 41)) := (hk.alloc _).alloc _
    obtain ⟨bf, hbf⟩ : ∃ bf, w.heap.size = bf := ⟨_, rfl⟩
    rw [hbf] at hbF hbT
    have HH0 := Lib.hid h0
    have HA := Lib.hid (⟨hbF, hbT, hkA⟩ : _ ∧ _ ∧ _)
    have h80 := u8_bd p8
    obtain ⟨P, hP⟩ : ∃ P : Int, (p8.toNat : Int) = P := ⟨_, rfl⟩
    have HPP := Lib.hid hP
    rw [hP] at h80 HH0
    clear h0 hFA hTA hbF hbT hkA hk hP
    rw [HPP.out]
    go_enter Try.func18, Try.ntmps18
    go_wp2_with fail
    refine (dgmaymake_any _ _ _).mono ?_
    rintro e w1 ⟨rfl, rfl⟩
    rw [HH0.out]
    have hA := HA.out
    obtain ⟨wA, hwA⟩ : ∃ wA, (w.alloc (.cells FA 41)).alloc (.cells TA 41) = wA := ⟨_, rfl⟩
    rw [hwA] at hA
    rw [hwA]
    clear HA hwA hbf
    obtain ⟨hBF, hBT, hkA⟩ := hA
    have HBF := Lib.hid hBF
    have HBT := Lib.hid hBT
    obtain ⟨q2, hq2⟩ : ∃ q, st (pr b.length) = q := ⟨_, rfl⟩
    have hz2 : q2.size = 2 := by rw [← hq2]; rfl
    obtain ⟨q3, hq3⟩ : ∃ q, (⟨#[96, 0, 0, 0]⟩ : ByteArray) ++ q2 = q := ⟨_, rfl⟩
    have hz3 : q3.size = 6 := by rw [← hq3, ByteArray.size_append, hz2]; rfl
    obtain ⟨q7, hq7⟩ : ∃ q, st [p8] = q := ⟨_, rfl⟩
    have hz7 : q7.size = 1 := by rw [← hq7]; rfl
    obtain ⟨q8, hq8⟩ : ∃ q, q3 ++ q7 = q := ⟨_, rfl⟩
    have hz8 : q8.size = 7 := by rw [← hq8, ByteArray.size_append, hz3, hz7]
    obtain ⟨q9, hq9⟩ : ∃ q, q8 ++ (⟨#[64]⟩ : ByteArray) = q := ⟨_, rfl⟩
    have hz9 : q9.size = 8 := by rw [← hq9, ByteArray.size_append, hz8]; rfl
    have HPR := Lib.hid (show ∀ W : World, Calls Try.prog 31 #[.int .i64 (b.length : Int)] W fun e w' => e = .returned (.string q2) ∧ Keeps W w' by
      intro W; rw [← hq2]; exact dgpair_any W _ b.length W rfl (by omega) (Keeps.refl _))
    have HQ := Lib.hid (show q9 = st (ahead6 p8 b.length) by
      rw [← hq9, ← hq8, ← hq3, ← hq2, ← hq7]
      show st [96, 0, 0, 0] ++ st (pr b.length) ++ st [p8] ++ st [64] = _
      rw [st_append, st_append, st_append]; rfl)
    have HQ7 := Lib.hid hq7
    have HQ2 := Lib.hid hq2
    clear hq2 hq7
    have hp8 : IntKind.u8.wrap P = P := by rw [IntKind.wrap_u8']; omega
    have HCL := Lib.hid (show (#[.int .u8 P] : Array Value) = ([p8].map B).toArray by rw [← HPP.out]; rfl)
    go_wp2
    refine wp_draw_h (by kernel_rfl) (vs6 (.string (st b)) (.int .i64 (b.length : Int)) (.int .i64 P) (.int .u8 P) q2 q3 q7 q8 q9) (fun γ => PJ wA 6 [p8] γ) rfl (by kernel_rfl) ?fin ?hfin 0 ⟨(Keeps.refl wA).eqv (Eqv.drew wA), (fun x => by cases x)⟩ ?each ?hend
    case hfin => intro γ; simp [vs6, seqA, dstOf, Act.put]; rfl
    case each =>
      refine ⟨?_, ?_, ?_, ?_, ?_, ?_, ?_, ?_, ?_, ?_, ?_, trivial⟩
      all_goals intro γ L w5 h0 hd hs hw
      all_goals unfold Does
      all_goals try simp only [Nat.zero_add, Nat.reduceAdd] at h0
      rotate_left 7
      · have hcv := (hw.blk (hd 6 (by kernel_rfl))).whole 1 (n := 1) rfl
        rw [HQ7.out] at hcv
        go_simp
        exact Goes.on (fun _ => rfl) fun L' k => hw.same (by decide) k
      all_goals go_simp
      all_goals try exact Goes.on (fun _ => rfl) fun L' k => hw.same (by decide) k
      · refine (HPR.out w5).mono ?_
        rintro e w6 ⟨rfl, h6⟩
        exact ⟨_, rfl, Goes.on (fun _ => rfl) fun L' k => hw.on (by decide) k h6⟩
      · rw [HCL.out]
        exact ⟨w5.heap.size, vs6_same h0, fun _ => rfl, fun L' k => PJ.made hw k _⟩
    case hend =>
      intro γ L w5 hL hw
      have hk5 := hw.kp
      have HK5 := Lib.hid (hkA.trans hk5)
      have hF5 := HBF.out.below hk5
      have hT5 := HBT.out.below hk5
      clear hw hL hk5
      have HF5 := Lib.hid hF5
      have HT5 := Lib.hid hT5
      obtain ⟨sf, hsf⟩ : ∃ q, st f = q := ⟨_, rfl⟩
      obtain ⟨s2, hs2⟩ : ∃ q, st t = q := ⟨_, rfl⟩
      have hzf : sf.size = 16 := by rw [← hsf, st_size, hf]
      have hzt : s2.size = 16 := by rw [← hs2, st_size, ht]
      obtain ⟨a1, ha1⟩ : ∃ q, q9 ++ sf = q := ⟨_, rfl⟩
      have hza : a1.size = 24 := by rw [← ha1, ByteArray.size_append, hz9, hzf]
      obtain ⟨a2, ha2⟩ : ∃ q, a1 ++ s2 = q := ⟨_, rfl⟩
      have hzb : a2.size = 40 := by rw [← ha2, ByteArray.size_append, hza, hzt]
      obtain ⟨a3, ha3⟩ : ∃ q, a2 ++ st b = q := ⟨_, rfl⟩
      have HA3 := Lib.hid (show a3 = st (make6 f t p8 b) by
        rw [← ha3, ← ha2, ← ha1, HQ.out, ← hsf, ← hs2, st_append, st_append, st_append]; rfl)
      have HSF := Lib.hid hsf
      have HST := Lib.hid hs2
      have HFL := Lib.hid hf
      have HTL := Lib.hid ht
      clear hsf hs2 hF5 hT5 hq9 hq8 hq3 hf ht
      go_wp2
      refine wp_draw (by kernel_rfl)
        [.string q9, .slice (some ⟨bf, 0, none⟩) 16 16, .string sf, .string a1, .slice (some ⟨bf + 1, 0, none⟩) 16 16, .string s2, .string a2, .string (st b), .string a3, .string a3, .int .i64 0]
        (fun _ W => Eqv w5 W)
        rfl (by kernel_rfl) (fin := ?finb) ?hfinb (Eqv.drew w5) ?eachb ?hendb
      case hfinb => simp [seqA, dstOf, Act.put]; rfl
      case eachb =>
        refine ⟨?_, ?_, ?_, ?_, ?_, ?_, ?_, ?_, ?_, ?_, ?_, trivial⟩
        all_goals intro L6 w6 h0 hd hs hw
        all_goals unfold Does
        rotate_left 2
        · have hcv := (HF5.out.eqv hw).whole 16 (n := 16) HFL.out.symm
          rw [HSF.out] at hcv
          go_simp
        rotate_left 2
        · have hcv := (HT5.out.eqv hw).whole 16 (n := 16) HTL.out.symm
          rw [HST.out] at hcv
          go_simp
        all_goals have hcat : ¬ 9223372036854775807 < 40 + b.length := by omega
        all_goals go_simp
      case hendb =>
        intro L6 w6 hL6 hw
        clear hL6
        go_wp2
        go_ret2
        exact ⟨by rw [← HPP.out, HM.out, ← HA3.out]; rfl, HK5.out.eqv hw⟩
  · have HM := Lib.hid (show mkR p (40 + (b.length : Int)) (make6 f t (UInt8.ofNat p.toNat) b) = .tuple #[.string (st []), .int .i64 (mk p (40 + (b.length : Int)))] by unfold mkR; rw [if_neg h0])
    have hne : (mk p (40 + (b.length : Int)) != 0) = true := by simpa using h0
    clear h0 hFA hTA
    go_enter Try.func18, Try.ntmps18
    go_wp2_with fail
    refine (dgmaymake_any _ _ _).mono ?_
    rintro e w1 ⟨rfl, rfl⟩
    generalize mk p (40 + (b.length : Int)) = r at *
    go_wp2
    go_ret2
    exact ⟨by rw [HM.out]; rfl, (hk.alloc _).alloc _⟩
set_option maxHeartbeats 1600000 in
theorem dgmake4_any (w0 : World) (f t b : List UInt8) (FA TA : Array Value) (hFA : (f.map B).toArray = FA) (hTA : (t.map B).toArray = TA) (hf : f.length = 4) (ht : t.length = 4) (p : Int) (w : World) (hb : b.length ≤ 1000000) (hk : Keeps w0 w) :
    Calls Try.prog 20 #[.agg FA, .agg TA, .int .i64 p, .string (st b)] w (MkPost w0 p (20 + (b.length : Int)) (make4 f t (UInt8.ofNat p.toNat) b)) := by
  have hbs : (st b).size = b.length := st_size b
  by_cases h0 : mk p (20 + (b.length : Int)) = 0
  · have hb2 : ¬ (p < 0 ∨ 256 ≤ p) ∧ 20 + (b.length : Int) ≤ 4080 := by
      unfold mk at h0
      split at h0
      · cases h0
      · split at h0
        · cases h0
        · omega
    obtain ⟨p8, hp8⟩ := u8_of (n := p) (by omega)
    subst hp8
    have HM := Lib.hid (show mkR (p8.toNat : Int) (20 + (b.length : Int)) (make4 f t (UInt8.ofNat ((p8.toNat : Int)).toNat) b) = .tuple #[.string (st (make4 f t p8 b)), .int .i64 0] by
      unfold mkR; rw [if_pos h0, Int.toNat_natCast, UInt8.ofNat_toNat])
    have hbF : Blk w.heap.size f ((w.alloc (.cells FA 46)).alloc (.cells TA 46)) := by
      rw [← hFA, ← hTA]; exact (Blk.lit w f _).below ((Keeps.refl _).alloc _)
    have hbT : Blk (w.heap.size + 1) t ((w.alloc (.cells FA 46)).alloc (.cells TA 46)) := by
      rw [← hFA, ← hTA]
      have := Blk.lit (w.alloc (.cells (f.map B).toArray 46)) t 46
      rwa [World.size_alloc] at this
    have hkA : Keeps w0 ((w.alloc (.cells FA 46)).alloc (.cells TA 46)) := (hk.alloc _).alloc _
    obtain ⟨bf, hbf⟩ : ∃ bf, w.heap.size = bf := ⟨_, rfl⟩
    rw [hbf] at hbF hbT
    have HH0 := Lib.hid h0
    have HA := Lib.hid (⟨hbF, hbT, hkA⟩ : _ ∧ _ ∧ _)
    have h80 := u8_bd p8
    obtain ⟨P, hP⟩ : ∃ P : Int, (p8.toNat : Int) = P := ⟨_, rfl⟩
    have HPP := Lib.hid hP
    rw [hP] at h80 HH0
    clear h0 hFA hTA hbF hbT hkA hk hP
    rw [HPP.out]
    go_enter Try.func20, Try.ntmps20
    go_wp2_with fail
    refine (dgmaymake_any _ _ _).mono ?_
    rintro e w1 ⟨rfl, rfl⟩
    rw [HH0.out]
    have hA := HA.out
    obtain ⟨wA, hwA⟩ : ∃ wA, (w.alloc (.cells FA 46)).alloc (.cells TA 46) = wA := ⟨_, rfl⟩
    rw [hwA] at hA
    rw [hwA]
    clear HA hwA hbf
    obtain ⟨hBF, hBT, hkA⟩ := hA
    have HBF := Lib.hid hBF
    have HBT := Lib.hid hBT
    obtain ⟨m, hm⟩ : ∃ m, 20 + b.length = m := ⟨_, rfl⟩
    have hmi : 20 + (b.length : Int) = (m : Int) := by omega
    have hm2 : m ≤ 4080 := by omega
    obtain ⟨q1, hq1⟩ : ∃ q, st (pr m) = q := ⟨_, rfl⟩
    have hz1 : q1.size = 2 := by rw [← hq1]; rfl
    obtain ⟨q2, hq2⟩ : ∃ q, (⟨#[69, 0]⟩ : ByteArray) ++ q1 = q := ⟨_, rfl⟩
    have hz2 : q2.size = 4 := by rw [← hq2, ByteArray.size_append, hz1]; rfl
    obtain ⟨q3, hq3⟩ : ∃ q, q2 ++ (⟨#[0, 0, 0, 0, 64]⟩ : ByteArray) = q := ⟨_, rfl⟩
    have hz3 : q3.size = 9 := by rw [← hq3, ByteArray.size_append, hz2]; rfl
    obtain ⟨q7, hq7⟩ : ∃ q, st [p8] = q := ⟨_, rfl⟩
    have hz7 : q7.size = 1 := by rw [← hq7]; rfl
    obtain ⟨q8, hq8⟩ : ∃ q, q3 ++ q7 = q := ⟨_, rfl⟩
    have hz8 : q8.size = 10 := by rw [← hq8, ByteArray.size_append, hz3, hz7]
    have HPR := Lib.hid (show ∀ W : World, Calls Try.prog 31 #[.int .i64 (m : Int)] W fun e w' => e = .returned (.string q1) ∧ Keeps W w' by
      intro W; rw [← hq1]; exact dgpair_any W _ m W rfl (by omega) (Keeps.refl _))
    have HQ := Lib.hid (show q8 = st (ahead4 p8 m) by
      rw [← hq8, ← hq3, ← hq2, ← hq1, ← hq7]
      show st [69, 0] ++ st (pr m) ++ st [0, 0, 0, 0, 64] ++ st [p8] = _
      rw [st_append, st_append, st_append]; rfl)
    have HQ7 := Lib.hid hq7
    clear hq1 hq7
    have hp8 : IntKind.u8.wrap P = P := by rw [IntKind.wrap_u8']; omega
    have HCL := Lib.hid (show (#[.int .u8 P] : Array Value) = ([p8].map B).toArray by rw [← HPP.out]; rfl)
    have HMM2 := Lib.hid hm
    rw [hmi]
    clear hm hmi hbs
    go_wp2
    refine wp_draw_h (by kernel_rfl) (vs6 (.int .i64 (m : Int)) (.string q1) (.int .i64 P) (.int .u8 P) q2 q3 q7 q8 q8) (fun γ => PJ wA 6 [p8] γ) rfl (by kernel_rfl) ?fin ?hfin 0 ⟨(Keeps.refl wA).eqv (Eqv.drew wA), (fun x => by cases x)⟩ ?each ?hend
    case hfin => intro γ; simp [vs6, seqA, dstOf, Act.put]; rfl
    case each =>
      refine ⟨?_, ?_, ?_, ?_, ?_, ?_, ?_, ?_, ?_, ?_, trivial⟩
      all_goals intro γ L w5 h0 hd hs hw
      all_goals unfold Does
      all_goals try simp only [Nat.zero_add, Nat.reduceAdd] at h0
      rotate_left 7
      · have hcv := (hw.blk (hd 6 (by kernel_rfl))).whole 1 (n := 1) rfl
        rw [HQ7.out] at hcv
        go_simp
        exact Goes.on (fun _ => rfl) fun L' k => hw.same (by decide) k
      all_goals go_simp
      all_goals try exact Goes.on (fun _ => rfl) fun L' k => hw.same (by decide) k
      · refine (HPR.out w5).mono ?_
        rintro e w6 ⟨rfl, h6⟩
        exact ⟨_, rfl, Goes.on (fun _ => rfl) fun L' k => hw.on (by decide) k h6⟩
      · rw [HCL.out]
        exact ⟨w5.heap.size, vs6_same h0, fun _ => rfl, fun L' k => PJ.made hw k _⟩
    case hend =>
      intro γ L w5 hL hw
      have hk5 := hw.kp
      have HK5 := Lib.hid (hkA.trans hk5)
      have hF5 := HBF.out.below hk5
      have hT5 := HBT.out.below hk5
      clear hw hL hk5 hkA HBF HBT
      have HF5 := Lib.hid hF5
      have HT5 := Lib.hid hT5
      obtain ⟨sf, hsf⟩ : ∃ q, st f = q := ⟨_, rfl⟩
      obtain ⟨s2, hs2⟩ : ∃ q, st t = q := ⟨_, rfl⟩
      have hzf : sf.size = 4 := by rw [← hsf, st_size, hf]
      have hzt : s2.size = 4 := by rw [← hs2, st_size, ht]
      obtain ⟨en, hen⟩ : ∃ q, sf ++ s2 = q := ⟨_, rfl⟩
      have hze : en.size = 8 := by rw [← hen, ByteArray.size_append, hzf, hzt]
      have HEN := Lib.hid (show en = st (f ++ t) by rw [← hen, ← hsf, ← hs2, st_append])
      have HSF := Lib.hid hsf
      have HST := Lib.hid hs2
      have HFL := Lib.hid hf
      have HTL := Lib.hid ht
      clear hsf hs2 hF5 hT5 hq8 hq3 hq2 hf ht
      go_wp2
      refine wp_draw (by kernel_rfl)
        [.slice (some ⟨bf, 0, none⟩) 4 4, .string sf, .slice (some ⟨bf + 1, 0, none⟩) 4 4, .string s2, .string en, .string en]
        (fun _ W => Eqv w5 W)
        rfl (by kernel_rfl) (fin := ?finb) ?hfinb (Eqv.drew w5) ?eachb ?hendb
      case hfinb => simp [seqA, dstOf, Act.put]; rfl
      case eachb =>
        refine ⟨?_, ?_, ?_, ?_, ?_, ?_, trivial⟩
        all_goals intro L6 w6 h0 hd hs hw
        all_goals unfold Does
        rotate_left 1
        · have hcv := (HF5.out.eqv hw).whole 4 (n := 4) HFL.out.symm
          rw [HSF.out] at hcv
          go_simp
        rotate_left 1
        · have hcv := (HT5.out.eqv hw).whole 4 (n := 4) HTL.out.symm
          rw [HST.out] at hcv
          go_simp
        all_goals go_simp
      case hendb =>
        intro L6 w6 hL6 hw
        have HK6 := Lib.hid (HK5.out.eqv hw)
        clear hL6 hw hen
        go_wp2_with fail
        refine (dgsum_any _ _ _ [ls q8, ls en] _ (IsT.twoAt rfl q8 en 9) (by simp) (by simp [← ls_size, hz8, hze])).mono ?_
        rintro e w7 ⟨rfl, he7⟩
        have hfl : [ls q8, ls en].flatten = ahead4 p8 m ++ (f ++ t) := by rw [HQ.out, HEN.out]; simp [ls_st]
        rw [hfl]
        have HK7 := Lib.hid ((HK6.out.alloc _).eqv he7)
        clear he7 hfl
        obtain ⟨c1, c2⟩ := csum_bd (ahead4 p8 m ++ (f ++ t))
        have HC := Lib.hid (show make4 f t p8 b = ahead4 p8 m ++ pr (csum (ahead4 p8 m ++ (f ++ t))).toNat ++ (f ++ t) ++ b by unfold make4 head4; rw [HMM2.out])
        obtain ⟨c, hc⟩ : ∃ c, csum (ahead4 p8 m ++ (f ++ t)) = c := ⟨_, rfl⟩
        rw [hc] at HC c1 c2
        rw [hc]
        clear hc
        go_wp2_with fail
        refine (dgpair_any w0 c c.toNat w7 (by omega) (by omega) HK7.out).mono ?_
        rintro e w8 ⟨rfl, hk8⟩
        obtain ⟨qc, hqc⟩ : ∃ q, st (pr c.toNat) = q := ⟨_, rfl⟩
        have hzc : qc.size = 2 := by rw [← hqc]; rfl
        rw [hqc]
        obtain ⟨a1, ha1⟩ : ∃ q, q8 ++ qc = q := ⟨_, rfl⟩
        have hza : a1.size = 12 := by rw [← ha1, ByteArray.size_append, hz8, hzc]
        obtain ⟨a2, ha2⟩ : ∃ q, a1 ++ en = q := ⟨_, rfl⟩
        have hzb : a2.size = 20 := by rw [← ha2, ByteArray.size_append, hza, hze]
        obtain ⟨a3, ha3⟩ : ∃ q, a2 ++ st b = q := ⟨_, rfl⟩
        have HA3 := Lib.hid (show a3 = st (make4 f t p8 b) by
          rw [← ha3, ← ha2, ← ha1, HC.out, HQ.out, HEN.out, ← hqc, st_append, st_append, st_append])
        have hbz : (st b).size ≤ 5000 := by rw [st_size]; have := HMM2.out; omega
        clear hqc
        go_wp2
        go_ret2
        exact ⟨by rw [← HPP.out, HM.out, ← HA3.out]; rfl, hk8⟩
  · have HM := Lib.hid (show mkR p (20 + (b.length : Int)) (make4 f t (UInt8.ofNat p.toNat) b) = .tuple #[.string (st []), .int .i64 (mk p (20 + (b.length : Int)))] by unfold mkR; rw [if_neg h0])
    have hne : (mk p (20 + (b.length : Int)) != 0) = true := by simpa using h0
    clear h0 hFA hTA
    go_enter Try.func20, Try.ntmps20
    go_wp2_with fail
    refine (dgmaymake_any _ _ _).mono ?_
    rintro e w1 ⟨rfl, rfl⟩
    generalize mk p (20 + (b.length : Int)) = r at *
    go_wp2
    go_ret2
    exact ⟨by rw [HM.out]; rfl, (hk.alloc _).alloc _⟩
end Go.Proofs.Ytggokcakikkdgaa
