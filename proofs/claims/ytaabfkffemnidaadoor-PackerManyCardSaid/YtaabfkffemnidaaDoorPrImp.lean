/-
  What Pack and Many of package packer answer. The memory that was there stays.
-/
import Derived.Test.YtaabfkffemnidaaDoorPrD
namespace Go.Proofs.YtaabfkffemnidaaDoor
open Go.RowKit Gf Pk Pr
set_option maxRecDepth 100000
set_option linter.unusedSimpArgs false
theorem isC {α : Type} {T : RowT α} {w : World} {base : Nat} {v : Value} {l : List α} (h : OwnE T w base v l) {n : Nat} (hn : l.length = n) : ∃ a cap, v = .slice a n cap ∧ IsE T w a n l ∧ n ≤ cap := by
  obtain ⟨a, cap, e, hi, hc⟩ := h.is
  subst hn
  exact ⟨a, cap, e, hi, hc⟩
def PaPost (w : World) (q : List Pkt × Int × Int) (e : Ending) (w' : World) : Prop :=
  ∃ a cap, e = .returned (.tuple #[.slice a q.1.length cap, .int .i64 q.2.1, .int .i64 q.2.2]) ∧ IsE pktT w' a q.1.length q.1 ∧ q.1.length ≤ cap ∧ Keeps w w'
/-- Packets of the bodies that are done. -/
def pkD (pid count : Int) (D : List (Bool × List UInt8)) : List Pkt := D.zipIdx.map fun x => pkAt pid count x.1 x.2
theorem pkD_length (pid count : Int) (D : List (Bool × List UInt8)) : (pkD pid count D).length = D.length := by unfold pkD; rw [List.length_map, List.length_zipIdx]
theorem pkD_snoc (pid count : Int) (D : List (Bool × List UInt8)) (b : Bool × List UInt8) : pkD pid count (D ++ [b]) = pkD pid count D ++ [pkAt pid count b D.length] := by
  unfold pkD
  rw [List.zipIdx_append, List.map_append]
  simp
def vsK (V : Value) (pid count : Int) (bs : Nat) (p : Bool) (x y z : Nat) (n : Nat) (R T Y : ByteArray) (γ : Nat) : List Value :=
  [V, .int .i64 pid, .pointer (some ⟨bs, 0, none⟩), .bool p, .int .i64 count, shV p x y z, .string R, .int .i64 (n : Int), .string T, .string Y, pkV ⟨pid, p, count, false, Y⟩, .slice (some ⟨γ, 0, none⟩) 1 1]
theorem vsK_a {V : Value} {pid count : Int} {bs : Nat} {p : Bool} {x y z n : Nat} {R T Y : ByteArray} {L : Nat → Bool} {a a' : Nat} (h : L 11 = false) : ∀ j, L j = true → (vsK V pid count bs p x y z n R T Y a').getD j undef = (vsK V pid count bs p x y z n R T Y a).getD j undef
  | 0, _ => rfl
  | 1, _ => rfl
  | 2, _ => rfl
  | 3, _ => rfl
  | 4, _ => rfl
  | 5, _ => rfl
  | 6, _ => rfl
  | 7, _ => rfl
  | 8, _ => rfl
  | 9, _ => rfl
  | 10, _ => rfl
  | 11, k => by rw [h] at k; cases k
  | n + 12, _ => rfl
structure KR (wr : World) (y : Pkt) (γ : Nat) (L : Nat → Bool) (W : World) : Prop where
  kp : Keeps wr W
  two : L 11 = true → IsE pktT W (some ⟨γ, 0, none⟩) 1 [y]
theorem KR.on {wr : World} {y : Pkt} {γ : Nat} {L L' : Nat → Bool} {W W' : World} (h : KR wr y γ L W) {i : Nat} (h11 : 11 ≠ i) (k : ∀ j, L' j = true ↔ (L j = true ∨ j = i)) (hk : Keeps W W') : KR wr y γ L' W' :=
  ⟨h.kp.trans hk, fun z => (h.two (((k 11).1 z).elim id fun q => absurd q h11)).keeps hk⟩
theorem KR.same {wr : World} {y : Pkt} {γ : Nat} {L L' : Nat → Bool} {W : World} (h : KR wr y γ L W) {i : Nat} (h11 : 11 ≠ i) (k : ∀ j, L' j = true ↔ (L j = true ∨ j = i)) : KR wr y γ L' W := h.on h11 k (Keeps.refl W)
/-- What holds at each packet. -/
structure PaK (w0 : World) (pid count : Int) (L : List (List UInt8)) (bc : Nat) (D : List (Bool × List UInt8)) (R : List UInt8) (r : Nat) (ns : List Nat) (a : Option Addr) (cap : Nat) (v : Value) (w : World) : Prop where
  c : CutAt bc r ns a cap w
  f : Fits R.length r ns
  b : bodies L = D ++ bd R r ns
  o : OwnE pktT w w0.heap.size v (pkD pid count D)
  s : ∀ g, v.ownBlock = some g → bc < g
  k : Keeps w0 w
  m : w0.heap.size ≤ bc
  l : ns.length ≤ 1000
  z : D.length ≤ 100000
def PaJ (w0 : World) (pid count : Int) (L : List (List UInt8)) (l : Value) (a : Act) (w : World) : Prop :=
  ∃ bc D R r ns ad cap v, PaK w0 pid count L bc D R r ns ad cap v w ∧ a.tmps.size = 55 ∧ a.defers = [] ∧
    a.tmps.toList.take 13 = [.int .i64 pid, .int .i64 ((count + (D.length : Int)) % 16), l, undef, undef, undef, .slice none 0 0, .int .i64 0, .int .i64 0, .int .i64 0, v, .pointer (some ⟨bc, 0, none⟩), .string (st R)]
def strZ : Value → Nat
  | .string s => s.size
  | _ => 0
theorem PaK.done {w0 : World} {pid count : Int} {L : List (List UInt8)} {bc : Nat} {D : List (Bool × List UInt8)} {R : List UInt8} {r : Nat} {ns : List Nat} {a : Option Addr} {cap : Nat} {v : Value} {w : World} (h : PaK w0 pid count L bc D R r ns a cap v w) (hd : r + ns.length = 0)
    (hok : okS pid count) (hck : ∀ s ∈ L, ck15 s = 0) {c : Int} (hc : c = (count + (D.length : Int)) % 16) : PaPost w0 (paO pid count L) (.returned (.tuple #[v, .int .i64 c, .int .i64 0])) w := by
  have hns : ns = [] := List.length_eq_zero_iff.1 (by omega)
  subst hns
  have hf := h.f.1
  have hs : ([] : List Nat).sum = 0 := rfl
  have hR : R = [] := List.length_eq_zero_iff.1 (by simp only [List.length_nil] at hd; omega)
  subst hR
  have hb := h.b
  rw [bd_nil, List.append_nil] at hb
  rw [paO_ok hok hck]
  have hp : paL pid count L = pkD pid count D := by unfold paL pkD; rw [hb]
  rw [hp, hb]
  obtain ⟨a2, cap2, e, hi, hc2⟩ := h.o.is
  exact ⟨a2, cap2, by rw [hc, ← e], hi, hc2, h.k⟩
theorem PaK.step {w0 : World} {pid count : Int} {L : List (List UInt8)} {bc : Nat} {D : List (Bool × List UInt8)} {R : List UInt8} {r : Nat} {ns : List Nat} {a : Option Addr} {cap : Nat} {v : Value} {w : World} (h : PaK w0 pid count L bc D R r ns a cap v w) (hR : R ≠ [])
    (hz : (bodies L).length ≤ 100000) {p : Bool} {x y z : Nat} (hs : shr r ns = (p, x, y, z)) {a' : Option Addr} {cap' : Nat} {v' : Value} {w' : World} (hc : CutAt bc (aft r ns).1 (aft r ns).2 a' cap' w')
    (ho : OwnE pktT w' w0.heap.size v' (pkD pid count D ++ [⟨pid, p, (count + (D.length : Int)) % 16, false, st (bdy (p, x, y, z) (R.take (x + y)))⟩])) (hb : ∀ g, v'.ownBlock = some g → bc < g) (hk : Keeps w0 w') :
    PaK w0 pid count L bc (D ++ [(p, bdy (p, x, y, z) (R.take (x + y)))]) (R.drop (x + y)) (aft r ns).1 (aft r ns).2 a' cap' v' w' := by
  obtain ⟨h1, h2⟩ := bd_step h.f hR
  rw [hs] at h1 h2
  simp only at h1 h2
  have hbb : bodies L = (D ++ [(p, bdy (p, x, y, z) (R.take (x + y)))]) ++ bd (R.drop (x + y)) (aft r ns).1 (aft r ns).2 := by rw [h.b, h1, List.append_assoc]; rfl
  have hl : (aft r ns).2.length ≤ ns.length := by
    by_cases k : 183 ≤ r
    · rw [(shr_mid k).2]; exact Nat.le_refl _
    by_cases e : ns = []
    · subst e; rw [(shr_end k).2]; exact Nat.le_refl _
    · rw [(shr_start k e).2]; exact eat_le _ _
  refine ⟨hc, by rw [List.length_drop]; exact h2, hbb, ?_, hb, hk, h.m, Nat.le_trans hl h.l, ?_⟩
  · rw [pkD_snoc]; exact ho
  · have := congrArg List.length hbb
    rw [List.length_append] at this
    omega
theorem zs_szL (L : List (List UInt8)) : zs (L.map List.length) = szL L := by unfold zs szL; rw [List.map_map]; rfl
theorem CutAt.made {w : World} {base g : Nat} {L : List (List UInt8)} (h : OwnE rowZ w base (.slice (some ⟨g, 0, none⟩) L.length L.length) (szL L)) (T : TypeId) : CutAt w.heap.size 0 (L.map List.length) (some ⟨g, 0, none⟩) L.length (w.alloc (.cells #[.int .i64 0, .slice (some ⟨g, 0, none⟩) L.length L.length] T)) := by
  have hl : (L.map List.length).length = L.length := List.length_map ..
  obtain ⟨a, c, e, hi, _⟩ := h.is
  have hsz : (szL L).length = L.length := List.length_map ..
  rw [hsz] at e hi
  cases e
  refine ⟨?_, ?_, by rw [hl]; exact Nat.le_refl _, fun _ p hp => by cases hp; exact h.old rfl⟩
  · rw [hl]; exact CsAt.made w #[.int .i64 0, .slice (some ⟨g, 0, none⟩) L.length L.length] T (by simp)
  · rw [zs_szL, hl]; exact hi.keeps ((Keeps.refl w).alloc _)
set_option maxHeartbeats 12800000 in
theorem prpack_any (pid count : Int) {a : Option Addr} {len cap : Nat} {L : List (List UInt8)} (w : World) (h : IsT w a len L) (hlc : len ≤ cap) (hn : L.length ≤ 1000) (hs : ∀ s ∈ L, s.length ≤ 1000000) :
    Calls Tryd.prog 13 #[.int .i64 pid, .int .i64 count, .slice a len cap] w (PaPost w (paO pid count L)) := by
  have HM := Lib.hid (prmay_any pid count (cap := cap) w h (by omega) hs)
  unfold MayPost at HM
  by_cases hE : paE pid count L = 0
  · have hok : okS pid count := Classical.byContradiction fun x => by unfold paE at hE; rw [if_neg x] at hE; cases hE
    have hck : ∀ s ∈ L, ck15 s = 0 := erL_zero.1 (by unfold paE at hE; rwa [if_pos hok] at hE)
    rw [hE] at HM
    have hlen : ∀ s ∈ L, 12 ≤ s.length ∧ s.length ≤ 4096 := fun s hs => ck15_good (hck s hs)
    have hp1 : ∀ s ∈ L, 1 ≤ s.length ∧ s.length ≤ 4096 := fun s hs => ⟨by have := (hlen s hs).1; omega, (hlen s hs).2⟩
    have hfl : L.flatten.length ≤ 4096 * L.length := by
      clear h HM hs hE hck hlen
      induction L with
      | nil => exact Nat.le_refl _
      | cons x t ih =>
        rw [List.flatten_cons, List.length_append, List.length_cons]
        have h1 := hp1 x (List.mem_cons_self ..)
        have h2 := ih (by simp only [List.length_cons] at hn; omega) fun s hs => hp1 s (List.mem_cons_of_mem _ hs)
        omega
    have hmb := (many_bound hp1).2
    have HZB := Lib.hid (show (bodies L).length ≤ 100000 by omega)
    have HSZ := Lib.hid (fun W (k : Keeps w W) => prsizes_any (cap := cap) W (h.keeps k) (by omega) hs)
    have HJO := Lib.hid (fun W (k : Keeps w W) => sjoin_any (cap := cap) W (h.keeps k) hlc (by omega) (by omega))
    have HD := Lib.hid (fun bc D R r ns a cap v W c (h : PaK w pid count L bc D R r ns a cap v W) hd hc => h.done hd hok hck (c := c) hc)
    have HF := Lib.hid (fits_all hp1)
    have HCN := Lib.hid hok
    have HLL := Lib.hid hn
    obtain ⟨F, hF⟩ : ∃ F, st L.flatten = F := ⟨_, rfl⟩
    rw [hF] at HJO
    have HFF := Lib.hid hF
    clear h hs hE hck hlen hp1 hfl hmb hF
    go_enter Tryd.func13, Tryd.ntmps13
    go_wp2
    refine scope_loop (rest := ?rest) 0 (PaJ w pid count L (.slice a len cap)) (fun a _ => strZ (a.tmps.getD 12 undef)) ?hf ?pass ?first
    case hf => rfl
    case first =>
      intro hrest
      have HREST := Lib.hid hrest
      clear hrest
      go_wp2_with (first | (go_at_call 21; refine HM.out.mono ?_; rintro _ w1 ⟨rfl, k1⟩; have HK1 := Lib.hid k1; clear k1) | (go_at_call 22; refine (HSZ.out _ HK1.out).mono ?_; rintro _ w2 ⟨rfl, o2, k2⟩; have HO2 := Lib.hid o2; have HK2 := Lib.hid (HK1.out.trans k2); clear o2 k2) | (go_at_call 23; refine (HJO.out _ HK2.out).mono ?_; rintro _ w3 ⟨rfl, k3⟩; have HO3 := Lib.hid (HO2.out.keeps k3); have HK3 := Lib.hid (HK2.out.trans k3); have HZ3 := Lib.hid (Below.size k3); clear k3))
      go_step3
      rename_i hK
      refine hK _ _ (HREST.out _ _ ⟨w3.heap.size, [], L.flatten, 0, L.map List.length, some ⟨w1.heap.size, 0, none⟩, L.length, .slice none 0 0, ⟨CutAt.made HO3.out _, HF.out, rfl, OwnE.nil _ _, (fun g hg => by cases hg), HK3.out.alloc _, Below.size HK3.out, by rw [List.length_map]; exact HLL.out, Nat.zero_le _⟩, rfl, rfl, ?_⟩)
      obtain ⟨_, c1, c2⟩ := HCN.out
      rw [HFF.out, show (count + ((([] : List (Bool × List UInt8)).length : Nat) : Int)) % 16 = count by show (count + 0) % 16 = count; omega]
      rfl
    case pass =>
      rintro a' w' ⟨bc, D, R, r, ns, ad, cap', v, hK, hfs, hfd, hft⟩
      obtain ⟨cn, hcn⟩ : ∃ cn, (count + (D.length : Int)) % 16 = cn := ⟨_, rfl⟩
      rw [hcn] at hft
      obtain ⟨us, rfl⟩ := frameN 42 [.int .i64 pid, .int .i64 cn, .slice a len cap, undef, undef, undef, .slice none 0 0, .int .i64 0, .int .i64 0, .int .i64 0, v, .pointer (some ⟨bc, 0, none⟩), .string (st R)] hfs hfd hft
      simp only [tailF, List.cons_append, List.nil_append, Nat.reduceAdd]
      have HKK := Lib.hid hK
      have HEN := Lib.hid (prended_any w' hK.c)
      have HC := Lib.hid hcn
      have hcn2 : 0 ≤ cn ∧ cn ≤ 15 := by rw [← hcn]; omega
      clear hfs hfd hft
      by_cases hd : r + ns.length = 0
      · have HDD := Lib.hid (HD.out bc D R r ns ad cap' v w' cn hK hd hcn.symm)
        rw [decide_eq_true hd] at HEN
        clear hd hcn hK
        go_wp2_with (go_at_call 18; refine HEN.out.mono ?_; rintro _ w2 ⟨rfl, rfl⟩)
        show bodyPost Tryd.prog Tryd.f13 (PaPost w (paO pid count L)) Exit.ret _ _
        go_ret3
        exact HDD.out
      · rw [decide_eq_false hd] at HEN
        have hfit := hK.f
        have hRn : R ≠ [] := fun e => by
          obtain ⟨f1, _, f3⟩ := hfit
          rw [e] at f1
          by_cases hns : ns = []
          · subst hns; have : ([] : List Nat).sum = 0 := rfl; simp only [List.length_nil] at hd f1; omega
          · have := sum_pos f3 hns; simp only [List.length_nil] at f1; omega
        have HNX := Lib.hid (prnext_any bc r w' hfit.2.1 hfit.2.2 hK.l hK.c)
        unfold NxPost at HNX
        obtain ⟨b1, b2, b3, b4, b5, b6, b7⟩ := shr_bd hfit
        obtain ⟨⟨p, x, y, z⟩, hsh⟩ : ∃ s, shr r ns = s := ⟨_, rfl⟩
        have HST := Lib.hid (fun a' cap' v' w2 hc ho hb hk => hK.step hRn HZB.out hsh (a' := a') (cap' := cap') (v' := v') (w' := w2) hc ho hb hk)
        rw [hcn] at HST
        rw [hsh] at HNX b1 b2 b3 b4 b5 b6 b7
        simp only at HNX b1 b2 b3 b4 b5 b6 b7
        obtain ⟨m, hm⟩ : ∃ m, x + y = m := ⟨_, rfl⟩
        rw [hm] at HST b3 b4
        have hmI : (x : Int) + (y : Int) = (m : Int) := by omega
        obtain ⟨T, hT⟩ : ∃ T, st (R.take m) = T := ⟨_, rfl⟩
        have hTl : R.take m = ls T := by rw [← hT, ls_st]
        have HBO := Lib.hid (fun W => prbody_any p x y z T W b1 b5 (by rw [← hT, st_size, List.length_take]; omega))
        rw [hTl] at HST
        obtain ⟨Y, hY⟩ : ∃ Y, st (bdy (p, x, y, z) (ls T)) = Y := ⟨_, rfl⟩
        rw [hY] at HBO HST
        obtain ⟨S, hS⟩ : ∃ S, st R = S := ⟨_, rfl⟩
        have hSz : S.size = R.length := by rw [← hS, st_size]
        have hRl : R = ls S := by rw [← hS, ls_st]
        have x1 : S.extract 0 m = T := by rw [pk_take0, ← hRl]; exact hT
        obtain ⟨U, hU⟩ : ∃ U, st (R.drop m) = U := ⟨_, rfl⟩
        have x2 : S.extract m S.size = U := by rw [pk_drop0, ← hRl]; exact hU
        have HUU := Lib.hid hU
        have hmS : (m : Int) ≤ (S.size : Int) := by omega
        have hmS2 : m ≤ S.size := by omega
        have HMZ := Lib.hid (show U.size < S.size by rw [← hU, st_size, List.length_drop, hSz]; have := List.length_pos_iff.2 hRn; have := shr_pos hfit hRn; rw [hsh] at this; simp only at this; omega)
        rw [hS]
        have HSS := Lib.hid hS
        have wr1 := wrapI (a := (m : Int)) (by omega) (by omega)
        have wr2 := wrapI (a := cn + 1) (by omega) (by omega)
        clear hd hcn hK hfit hRn b1 b2 b3 b4 b5 b6 b7 hsh hm hT hTl hY hS hSz hRl hU
        go_wp2_with (first | (go_at_call 18; refine HEN.out.mono ?_; rintro _ w2 ⟨rfl, rfl⟩) | (go_at_call 19; refine HNX.out.mono ?_; rintro _ w2 ⟨rfl, a2, cap2, hc2, hf2⟩; have HC2 := Lib.hid hc2; have HF2 := Lib.hid hf2; clear hc2 hf2))
        obtain ⟨bs, hbs⟩ : ∃ bs, w2.heap.size = bs := ⟨_, rfl⟩
        obtain ⟨wB, hB⟩ : ∃ wB, w2.alloc (.cells #[.bool p, .int .i64 (x : Int), .int .i64 (y : Int), .int .i64 (z : Int)] 56) = wB := ⟨_, rfl⟩
        have HSB := Lib.hid (show CsAt bs (shC p x y z) wB by rw [← hB, ← hbs]; exact CsAt.made w2 #[.bool p, .int .i64 (x : Int), .int .i64 (y : Int), .int .i64 (z : Int)] _ (by simp))
        have HKB := Lib.hid (show Keeps w2 wB by rw [← hB]; exact (Keeps.refl w2).alloc _)
        rw [hB, hbs]
        clear hB hbs
        refine wp_draw_ht (Γ := Nat) 12 (by kernel_rfl) (vsK v pid cn bs p x y z m S T Y) (fun γ => KR wB ⟨pid, p, cn, false, Y⟩ γ) rfl (by kernel_rfl) (by kernel_rfl) ?fin1 ?hfin1 0 ⟨(Keeps.refl wB).eqv (Eqv.drew wB), (fun x => by cases x)⟩ ?each1 ?hend1
        case hfin1 => intro γ; simp [vsK, seqA, dstOf, Act.put]; rfl
        case each1 =>
          refine ⟨?_, ?_, ?_, ?_, ?_, ?_, ?_, ?_, ?_, ?_, ?_, ?_, trivial⟩
          all_goals intro γ L w5 h0 hd hs hw
          all_goals unfold Does
          all_goals try simp only [Nat.zero_add, Nat.reduceAdd] at h0
          all_goals have hcs := HSB.out.keeps hw.kp
          all_goals have c0 := hcs.cell 0 rfl
          all_goals have c1 := hcs.cell 1 rfl
          all_goals have c2 := hcs.cell 2 rfl
          all_goals have c3 := hcs.cell 3 rfl
          all_goals have hld := ldSh hcs.r
          all_goals clear hcs
          rotate_left 9
          · go_simp
            refine (HBO.out w5).mono ?_
            rintro e w6 ⟨rfl, hk6⟩
            exact ⟨_, rfl, Goes.on (fun _ => rfl) fun L' k => hw.on (by decide) k hk6⟩
          rotate_left 1
          · go_simp
            refine ⟨w5.heap.size, vsK_a h0, fun _ => rfl, fun L' k => ?_⟩
            have ka : Keeps w5 (w5.alloc (.cells #[.int .i64 pid, .bool p, .int .i64 cn, .bool false, .string Y] 27)) := (Keeps.refl w5).alloc _
            exact ⟨hw.kp.trans ka, fun _ => IsE.lit (T := pktT) w5 [⟨pid, p, cn, false, Y⟩] #[.int .i64 pid, .bool p, .int .i64 cn, .bool false, .string Y] _ rfl rfl⟩
          all_goals (go_simp; exact Goes.on (fun _ => rfl) fun L' k => hw.same (by decide) k)
        case hend1 =>
        intro γ L8 w8 hL hw
        have HTW := Lib.hid (hw.two (hL 11 (by decide)))
        have hkw := HKB.out.trans hw.kp
        have hmb := Nat.lt_of_lt_of_le HC2.out.c.old (Below.size hkw)
        have hown := (HKK.out.o.foot HF2.out (fun g hg e => by have := HKK.out.s g hg; omega)).keeps hkw
        have HO8 := Lib.hid hown
        have HC8 := Lib.hid (HC2.out.keeps hkw)
        have HK8 := Lib.hid ((HF2.out.keeps HKK.out.k (fun k e => by rw [e]; exact HKK.out.m)).trans hkw)
        have HMB := Lib.hid hmb
        have HL8 := Lib.hid (show (pkD pid count D).length ≤ 100000 by rw [pkD_length]; exact HKK.out.z)
        simp only [List.drop_succ_cons, List.drop_zero]
        clear hw hL hkw hmb hown
        go_wp2_with (at_builtin; refine wp_catE (T := pktT) rfl _ _ rfl HO8.out rfl rfl HTW.out (by simp) (by have := HL8.out; show _ + 1 ≤ _; omega) (Below.size HK8.out) ?_; intro v9 w9 o9 g9 at9; have HO9 := Lib.hid o9; have HG9 := Lib.hid g9; have HA9 := Lib.hid at9; clear o9 g9 at9)
        go_step3
        have hK9 := HK8.out.grown HG9.out HO8.out.block
        have hC9 := HC8.out.foot (S := fun k => v.ownBlock = some k) (Foot.grown HG9.out fun r hr => hr) (fun i hi e => by have := HKK.out.s i e; omega)
        have hS9 : ∀ g, v9.ownBlock = some g → bc < g := fun g hg => by
          rcases HA9.out with e | e
          · exact HKK.out.s g (by rw [← e]; exact hg)
          · rw [e] at hg; cases hg; exact HMB.out
        have hN := HST.out _ _ _ _ hC9 HO9.out hS9 hK9
        refine ⟨rfl, ⟨bc, _, _, _, _, _, _, v9, hN, rfl, rfl, ?_⟩, ?_⟩
        · rw [HUU.out, List.length_append, List.length_singleton]
          rw [show (count + ((D.length + 1 : Nat) : Int)) % 16 = (cn + 1) % 16 by have := HC.out; omega]
          first | rfl | (go_num)
        · show U.size < S.size
          exact HMZ.out
  · have HQ := Lib.hid (paO_no hE)
    have hEb : (paE pid count L == 0) = false := by rw [beq_eq_false_iff_ne]; exact hE
    obtain ⟨E, hEE⟩ : ∃ E, paE pid count L = E := ⟨_, rfl⟩
    rw [hEE] at HM HQ hEb
    clear h hs hE hEE
    go_enter Tryd.func13, Tryd.ntmps13
    go_wp2
    refine scope_loop (rest := ?rest) 0 (fun _ _ => False) (fun _ _ => 0) ?hf ?pass ?first
    case hf => rfl
    case pass => intro a w h; exact h.elim
    case first =>
      intro _
      go_wp2_with (go_at_call 21; refine HM.out.mono ?_; rintro _ w1 ⟨rfl, k1⟩; have HK1 := Lib.hid k1; clear k1)
      show bodyPost Tryd.prog Tryd.f13 (PaPost w (paO pid count L)) Exit.ret _ _
      go_ret3
      exact ⟨none, 0, by rw [HQ.out]; rfl, by rw [HQ.out]; exact IsE.nil _ _, by rw [HQ.out]; exact Nat.le_refl _, HK1.out⟩
end Go.Proofs.YtaabfkffemnidaaDoor
