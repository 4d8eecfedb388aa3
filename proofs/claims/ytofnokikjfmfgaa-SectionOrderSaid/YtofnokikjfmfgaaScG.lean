/-
  What Split answers: for texts of up to a million bytes. The memory that was there stays.
-/
import Derived.Test.YtofnokikjfmfgaaScD
import Derived.Lib.ConvBytes
namespace Go.Proofs.Ytofnokikjfmfgaa
open Go.RowKit Gf Sct
set_option maxRecDepth 100000
/-- A part of a block, as a string. -/
theorem Blk.part {b : Nat} {l : List UInt8} {w : World} (h : Blk b l w) {off len : Nat} (cap : Nat) (hl : off + len ≤ l.length) :
    (convert 44 9 (.slice (some ⟨b, off, none⟩) len cap)).run Try.prog w = .ok (.string (st ((l.drop off).take len))) w := by
  have e := run_convert_bytes_arg (P := Try.prog) w 44 5 Try.underlying44 Try.underlying5 b off len cap (((l.drop off).take len).map fun x => (x.toNat : Int)) (by simp; omega) (fun i hi => by
      rw [h.cell (off + i) (by omega), List.getD_eq_getElem?_getD, List.getElem?_map, List.getElem?_take_of_lt hi, List.getElem?_drop, List.getElem?_eq_getElem (by omega), cf_lt (by omega)]; rfl) 9 Try.underlying9
  rw [e]
  have hs : strOfNums (((l.drop off).take len).map fun x => (x.toNat : Int)) = st ((l.drop off).take len) := by
    simp only [strOfNums, st, List.map_map]
    congr 2
    have : ((fun n : Int => UInt8.ofNat n.toNat) ∘ fun x : UInt8 => (x.toNat : Int)) = id := by
      funext x; simp
    rw [this, List.map_id]
  rw [hs]
/-- Where the n-th piece lies, and how long it is. -/
def pcLen (len n : Nat) : Nat := min 4084 (len - n * 4084)
def pcOff (len n : Nat) : Nat := if pcLen len n = 0 then 0 else n * 4084
theorem scpiece_any (b len cap n : Nat) (w : World) (hc : len ≤ cap) (hl : len ≤ 1000000) (hn : n * 4084 ≤ len) :
    Calls Try.prog 33 #[.slice (some ⟨b, 0, none⟩) len cap, .int .i64 (n : Int)] w fun e w' => e = .returned (.slice (some ⟨b, pcOff len n, none⟩) (pcLen len n) (pcLen len n)) ∧ w = w' := by
  obtain ⟨m, hm⟩ : ∃ m, pcLen len n = m := ⟨_, rfl⟩
  obtain ⟨to, hto⟩ : ∃ to, to = n * 4084 + m := ⟨_, rfl⟩
  have hmm : min 4084 (len - n * 4084) = m := hm
  have hmin : min (((n : Int) + 1) * 4084) (len : Int) = (to : Int) := by omega
  have hb : (n : Int) ≤ 1000 := by omega
  have h1 : to ≤ cap := by omega
  have h2 : n * 4084 ≤ to := by omega
  by_cases hz : m = 0
  · have hoff : pcOff len n = 0 := by unfold pcOff; rw [hm, if_pos hz]
    rw [hm, hoff]
    subst hz
    have ht : to = n * 4084 := by omega
    clear hm hmm hto hoff
    go_enter Try.func33, Try.ntmps33
    go_wp2
    go_ret
    exact ⟨rfl, rfl⟩
  · have hoff : pcOff len n = n * 4084 := by unfold pcOff; rw [hm, if_neg hz]
    rw [hm, hoff]
    have ht : ¬ (to = n * 4084) := by omega
    have HD := Lib.hid (show to - n * 4084 = m by omega)
    clear hm hmm hto hoff
    go_enter Try.func33, Try.ntmps33
    go_wp2
    go_ret
    refine ⟨?_, rfl⟩
    show Ending.returned (.slice (some ⟨b, n * 4084, none⟩) (to - n * 4084) (to - n * 4084)) = _
    rw [HD.out]
/-- What is read there is the piece. -/
theorem pc_conv {b : Nat} {l : List UInt8} {w : World} (h : Blk b l w) {n : Nat} (hn : n * 4084 ≤ l.length) :
    (convert 44 9 (.slice (some ⟨b, pcOff l.length n, none⟩) (pcLen l.length n) (pcLen l.length n))).run Try.prog w = .ok (.string (st (pc l n))) w := by
  by_cases hz : pcLen l.length n = 0
  · have e := h.part (off := pcOff l.length n) (len := pcLen l.length n) (pcLen l.length n) (by unfold pcOff; rw [if_pos hz, hz]; omega)
    rw [e, hz, List.take_zero]
    have : pc l n = [] := List.length_eq_zero_iff.1 (by rw [pc_length]; exact hz)
    rw [this]
  · have ho : pcOff l.length n = n * 4084 := by unfold pcOff; rw [if_neg hz]
    rw [ho]
    have e := h.part (off := n * 4084) (len := pcLen l.length n) (pcLen l.length n) (by unfold pcLen; omega)
    rw [e]
    unfold pc pcLen
    congr 3
    conv => rhs; rw [List.take_eq_take_min, List.length_drop]
def SplPost (T : RowT Sec) (w0 : World) (tb ex ver : Int) (l : List UInt8) (e : Ending) (w' : World) : Prop := ∃ v, e = .returned (.tuple #[v, .int .i64 (spl tb ex ver l).2]) ∧ OwnE T w' w0.heap.size v (spl tb ex ver l).1 ∧ Keeps w0 w'
/-- What the row holds behind k rounds. -/
def upTo (L : List Sec) (k : Nat) : List Sec := L.take k ++ List.replicate (L.length - k) zs
theorem upTo_length {L : List Sec} {k : Nat} (h : k ≤ L.length) : (upTo L k).length = L.length := by unfold upTo; rw [List.length_append, List.length_take, List.length_replicate]; omega
theorem upTo_next {L : List Sec} {k : Nat} (h : k < L.length) : (upTo L k).set k (L.getD k zs) = upTo L (k + 1) := by
  unfold upTo
  have hl : (L.take k).length = k := by rw [List.length_take]; omega
  rw [List.set_append_right _ _ (by omega), hl, Nat.sub_self, show L.length - k = L.length - (k + 1) + 1 by omega, List.replicate_succ, List.set_cons_zero, List.take_succ_eq_append_getElem h, List.getD_eq_getElem?_getD, List.getElem?_eq_getElem h, List.append_assoc]
  rfl
theorem upTo_all (L : List Sec) : upTo L L.length = L := by unfold upTo; rw [List.take_length, Nat.sub_self]; exact List.append_nil _
theorem upTo_zero (L : List Sec) : upTo L 0 = List.replicate L.length zs := by unfold upTo; rw [List.take_zero, List.nil_append, Nat.sub_zero]
/-- The state of Split's loop. -/
structure SpW (w0 : World) (bs g bb N : Nat) (body : List UInt8) (L : List Sec) (x : Sec) (k : Nat) (W : World) : Prop where
  s : SecAt bs x W
  o : OwnE secT W w0.heap.size (.slice (some ⟨g, 0, none⟩) N N) (upTo L k)
  b : Blk bb body W
  k : Keeps w0 W
  n1 : bs ≠ g
  n2 : bs ≠ bb
  n3 : g ≠ bb
  m1 : w0.heap.size ≤ bs
  m2 : w0.heap.size ≤ g
section
variable {w0 W W' : World} {bs g bb N k : Nat} {body : List UInt8} {L : List Sec} {x y : Sec}
theorem SpW.eqv (h : SpW w0 bs g bb N body L x k W) (e : Eqv W W') : SpW w0 bs g bb N body L x k W' := ⟨h.s.eqv e, h.o.eqv e, h.b.eqv e, h.k.eqv e, h.n1, h.n2, h.n3, h.m1, h.m2⟩
theorem SpW.wrote (h : SpW w0 bs g bb N body L x k W) (o : Only bs W W') (a : SecAt bs y W') : SpW w0 bs g bb N body L y k W' :=
  ⟨a, h.o.only o (fun e => h.n1 (by cases e; rfl)), h.b.only (Ne.symm h.n2) o, o.keeps h.k h.m1, h.n1, h.n2, h.n3, h.m1, h.m2⟩
theorem SpW.put (h : SpW w0 bs g bb N body L x k W) (hk : k < L.length) (hx : x = L.getD k zs) : SpW w0 bs g bb N body L x (k + 1) (W.setCells g (k * 8) (secC x)) := by
  have o := only_setCells g (secC x) (k * 8) W
  have hp := h.o.put (i := k) (by rw [upTo_length (by omega)]; exact hk) x
  refine ⟨h.s.only h.n1 o, ?_, h.b.only (Ne.symm h.n3) o, o.keeps h.k h.m2, h.n1, h.n2, h.n3, h.m1, h.m2⟩
  rw [← upTo_next hk, ← hx]; exact hp
theorem SpW.there (h : SpW w0 bs g bb N body L x k W) (hk : k < L.length) : W.there g (k * 8) 8 := h.o.there (i := k) (by rw [upTo_length (by omega)]; exact hk)
end
def splRel (w0 : World) (bs g bb N : Nat) (body : List UInt8) (L : List Sec) (tb ex ver : Int) (la : Int) (i : Value) (wr : World) : Prop := ∃ (k : Nat) (x : Sec), k ≤ N ∧ i = .int .i64 (k : Int) ∧ (x.tb = tb ∧ x.pv = false ∧ x.ex = ex ∧ x.ver = ver ∧ x.nw = true ∧ x.la = la) ∧ SpW w0 bs g bb N body L x k wr
set_option maxHeartbeats 6400000 in
theorem scsplit_any (w0 : World) (tb ex ver : Int) (s : ByteArray) (w : World) (hs : s.size ≤ 1000000) (hk : Keeps w0 w) :
    Calls Try.prog 12 #[.int .i64 tb, .int .i64 ex, .int .i64 ver, .string s] w (SplPost secT w0 tb ex ver (ls s)) := by
  obtain ⟨la, hla⟩ : ∃ la, lastN (ls s) = la := ⟨_, rfl⟩
  have hla2 : la = (s.size - 1) / 4084 := by rw [← hla, ls_size]; rfl
  have hl255 : la ≤ 245 := by omega
  have HCK := Lib.hid (fun W => sccheck_any W (base tb ex ver (ls s)) W (Keeps.refl W))
  unfold ChkPost at HCK
  have hbase : base tb ex ver (ls s) = ⟨tb, false, ex, ver, true, 0, (la : Int), ⟨#[]⟩⟩ := by unfold base; rw [hla]
  simp only [hbase] at HCK
  obtain ⟨M, hm⟩ : ∃ M, max ((s.size : Int) - 1) 0 = M := ⟨_, rfl⟩
  have hq : M / 4084 = (la : Int) := by omega
  have hM : 0 ≤ M ∧ M ≤ 1000000 := by omega
  have hb1 := SecAt.made w ⟨tb, false, ex, ver, true, 0, (la : Int), ⟨#[]⟩⟩ 29
  by_cases hc : chk (base tb ex ver (ls s)) = 0
  · have hsp := spl_ok (tb := tb) (ex := ex) (ver := ver) (l := ls s) (by omega) hc
    rw [hbase] at hc
    simp only [hc] at HCK
    have HSP := Lib.hid hsp
    obtain ⟨N, hN⟩ : ∃ N, N = la + 1 := ⟨_, rfl⟩
    have hNI : (la : Int) + 1 = (N : Int) := by omega
    have hNb : N ≤ 246 := by omega
    obtain ⟨MC, hMC⟩ : ∃ MC, madeCells secT.z.cells (N * secT.sz) = MC := ⟨_, rfl⟩
    have hmk0 := makeE secT N (by omega)
    have HMO := Lib.hid (fun W => OwnE.made secT zs rfl W N (by omega))
    rw [hMC] at HMO
    simp only [hMC] at hmk0
    have hcb := fun W => Lib.run_convert_string_bytes (P := Try.prog) W 9 44 5 s Try.underlying9 Try.underlying44 Try.underlying5
    have hmk : ∀ W : World, (Instr.makeSlice 24 (.int .i64 (N : Int)) (.int .i64 (N : Int))).run Try.prog W = .ok (.slice (some ⟨W.heap.size, 0, none⟩) N N) (W.alloc (.cells MC 29)) := hmk0
    clear hmk0 hMC
    obtain ⟨wA, hA⟩ : ∃ wA, w.alloc (.cells #[.int .i64 tb, .bool false, .int .i64 ex, .int .i64 ver, .bool true, .int .i64 0, .int .i64 (la : Int), .string ⟨#[]⟩] 29) = wA := ⟨_, rfl⟩
    have hkA : Keeps w0 wA := by rw [← hA]; exact hk.alloc _
    simp only [hA] at hb1
    have HS1 := Lib.hid hb1
    have HKA := Lib.hid hkA
    have HMB := Lib.hid (show w0.heap.size ≤ w.heap.size from Below.size hk)
    have HA := Lib.hid hA
    have HNN := Lib.hid hN
    have HL2 := Lib.hid hla2
    clear hb1 hkA hk hc hsp hbase hN hla2 hA
    go_enter Try.func12, Try.ntmps12
    go_wp2_with (first | (go_at_call 32; rw [HA.out]; refine (HCK.out _).mono ?_; rintro _ w2 ⟨rfl, k2⟩; have HS2 := Lib.hid (HS1.out.keeps k2); have HK2 := Lib.hid (HKA.out.trans k2); clear k2))
    clear hmk hcb
    have hO3 := HMO.out w2
    obtain ⟨w3, hw3⟩ : ∃ w3, w2.alloc (.cells MC 29) = w3 := ⟨_, rfl⟩
    rw [show w2.alloc (.cells MC secT.E) = w3 from hw3] at hO3
    have k23 : Keeps w2 w3 := by rw [← hw3]; exact (Keeps.refl w2).alloc _
    have hz3 : w3.heap.size = w2.heap.size + 1 := by rw [← hw3]; simp
    have hBK := Blk.bytes w3 s
    have k3B := Lib.bytesWorld_below w3 5 s
    obtain ⟨wB, hwB⟩ : ∃ wB, Lib.bytesWorld w3 5 s = wB := ⟨_, rfl⟩
    rw [hwB] at hBK k3B
    have hm2 := Below.size HK2.out
    have hbo := HS2.out.old
    have hSL : (secs tb ex ver (ls s)).length = N := by rw [secs_length, hla]; exact HNN.out.symm
    have hW : SpW w0 w.heap.size w2.heap.size w3.heap.size N (ls s) (secs tb ex ver (ls s)) ⟨tb, false, ex, ver, true, 0, (la : Int), ⟨#[]⟩⟩ 0 wB :=
      ⟨(HS2.out.keeps k23).keeps k3B, by rw [upTo_zero, hSL]; exact (hO3.lower hm2).keeps k3B, hBK, (HK2.out.trans k23).trans k3B, by omega, by omega, by omega, HMB.out, hm2⟩
    have hcapN := grownCap_ge w3 s.size 0 5
    obtain ⟨cb, hcb⟩ : ∃ cb, grownCap w3 s.size 0 5 = cb := ⟨_, rfl⟩
    rw [hcb] at hcapN
    obtain ⟨bs, hbs⟩ : ∃ bs, w.heap.size = bs := ⟨_, rfl⟩
    obtain ⟨g, hg⟩ : ∃ g, w2.heap.size = g := ⟨_, rfl⟩
    obtain ⟨bb, hbb⟩ : ∃ bb, g + 1 = bb := ⟨_, rfl⟩
    rw [hz3, hbs, hg, hbb] at hW
    have HW := Lib.hid hW
    have HSL := Lib.hid hSL
    have hcs : s.size ≤ cb := hcapN
    have HL := Lib.hid (ls_size s)
    rw [hw3, hbs, hg, hbb, hcb, hwB]
    clear hW hO3 k23 hBK k3B hz3 hm2 hbo hSL hcapN hcb hbs hg hbb hw3 hwB HA HMB HKA HS1 HS2 HK2
    go_loopw [40] (fun i wr => splRel w0 bs g bb N (ls s) (secs tb ex ver (ls s)) tb ex ver (la : Int) i wr) (fun i _ => N - (intOf i).toNat)
    case atStart => exact ⟨0, _, by omega, rfl, ⟨rfl, rfl, rfl, rfl, rfl, rfl⟩, HW.out⟩
    case round =>
      obtain ⟨k, x, hk, rfl, ⟨e1, e2, e3, e4, e5, e6⟩, hW⟩ := hrel
      have HW := Lib.hid hW
      clear hW
      by_cases hlt : k < N
      · have hkI : (k : Int) < (N : Int) := by omega
        obtain ⟨x1, x2, x3, x4, x5, x6, x7, x8⟩ := x
        simp only at e1 e2 e3 e4 e5 e6
        subst e1 e2 e3 e4 e5 e6
        have hk4 : k * 4084 ≤ s.size := by have := HNN.out; have := HL2.out; omega
        have HPC := Lib.hid (fun W => scpiece_any bb s.size cb k W hcs hs hk4)
        have HCV := Lib.hid (fun W (hB : Blk bb (ls s) W) => pc_conv (n := k) hB (by rw [← HL.out]; exact hk4))
        rw [← HL.out] at HCV
        obtain ⟨off, hoff⟩ : ∃ off, pcOff s.size k = off := ⟨_, rfl⟩
        obtain ⟨m, hm⟩ : ∃ m, pcLen s.size k = m := ⟨_, rfl⟩
        obtain ⟨P, hP⟩ : ∃ P, st (pc (ls s) k) = P := ⟨_, rfl⟩
        rw [hoff, hm] at HPC
        rw [hoff, hm, hP] at HCV
        have HP := Lib.hid hP
        clear hoff hm hP
        go_wp2
        refine wp_draw (by kernel_rfl)
          [.int .i64 (k : Int), .slice (some ⟨bb, 0, none⟩) s.size cb, .int .i64 (k : Int), .slice (some ⟨bb, off, none⟩) m m, .string P, .pointer (some ⟨bs, 5, none⟩), undef, .pointer (some ⟨bs, 7, none⟩), undef]
          (Turn 6 8 (Eqv wr) (Eqv (wr.setCell ⟨bs, 5, none⟩ (.int .i64 (k : Int)))) (Eqv ((wr.setCell ⟨bs, 5, none⟩ (.int .i64 (k : Int))).setCell ⟨bs, 7, none⟩ (.string P))))
          rfl (by kernel_rfl) (fin := ?fin) ?hfin (Turn.start (Eqv.drew wr)) ?each ?hend
        case hfin => simp [seqA, dstOf, Act.put]; rfl
        case each =>
          refine ⟨?_, ?_, ?_, ?_, ?_, ?_, ?_, ?_, ?_, trivial⟩
          all_goals intro L w5 h0 hd hsh hw
          all_goals unfold Does
          all_goals try simp only [Nat.zero_add, Nat.reduceAdd] at h0
          · go_simp; exact fun L' k => hw.same (by decide) (by decide) k
          · go_simp; exact fun L' k => hw.same (by decide) (by decide) k
          · go_simp; exact fun L' k => hw.same (by decide) (by decide) k
          · go_simp
            refine (HPC.out w5).mono ?_
            rintro e w6 ⟨rfl, rfl⟩
            exact ⟨_, rfl, rfl, fun L' k => hw.same (by decide) (by decide) k⟩
          · have h8 : L 8 = false := hsh.no (by kernel_rfl) h0
            have hcv := HCV.out w5 (by
              cases e : L 6
              · exact HW.out.b.eqv (hw.1 e)
              · exact (HW.out.b.only (Ne.symm HW.out.n2) (Only.setCell wr ⟨bs, 5, none⟩ _)).eqv (hw.2.1 e h8))
            go_simp
            exact fun L' k => hw.same (by decide) (by decide) k
          · go_simp; exact fun L' k => hw.same (by decide) (by decide) k
          · have hA := hw.1 h0
            have c5 := (HW.out.eqv hA).s.c5
            have f5 := (HW.out.eqv hA).s.fz 5 (by decide)
            go_simp
            exact fun L' k => Turn.first (hsh.no (by kernel_rfl) h0) (by decide) k (hA.setCell _ _)
          · go_simp; exact fun L' k => hw.same (by decide) (by decide) k
          · have h6 := hd 6 (by kernel_rfl)
            have hB := hw.2.1 h6 h0
            have c7 := ((HW.out.s.set5 (k : Int)).eqv hB).c7
            have f7 := ((HW.out.s.set5 (k : Int)).eqv hB).fz 7 (by decide)
            go_simp
            exact fun L' k => Turn.second h6 k (hB.setCell _ _)
        case hend =>
        intro L w6 hL hw
        have hC := hw.2.2 (hL 8 (by simp))
        clear hw hL
        have hW6 := ((HW.out.wrote (Only.setCell wr ⟨bs, 5, none⟩ _) (HW.out.s.set5 (k : Int))).wrote (Only.setCell _ ⟨bs, 7, none⟩ _) ((HW.out.s.set5 (k : Int)).set7 P)).eqv hC
        have HW6 := Lib.hid hW6
        have HX := Lib.hid (show (⟨x1, false, x3, x4, true, (k : Int), (la : Int), P⟩ : Sec) = (secs x1 x3 x4 (ls s)).getD k zs by
          rw [secs_get _ _ _ _ (by rw [hla]; have := HNN.out; omega), ← HP.out]; unfold mk; rw [hla])
        have HTH := Lib.hid (HW6.out.there (by rw [HSL.out]; exact hlt))
        clear hC hW6
        go_wp2_with (first | (refine wp_ldS HW6.out.s.range rfl _ rfl rfl ?_; refine RowKit.Hid.out ?_))
        refine Lib.hid ?_
        refine wpList_plain rfl fun _ hK => ?_
        unfold Oper.wp execOp
        go_simp
        refine hK _ _ ?_
        clear hK
        refine wp_stS (b := g) (off := k * 8) ⟨x1, false, x3, x4, true, (k : Int), (la : Int), P⟩ HTH.out rfl _ _ rfl rfl rfl ?_
        go_wp2
        go_roundw
        case rel => exact ⟨k + 1, _, by omega, by go_num, ⟨rfl, rfl, rfl, rfl, rfl, rfl⟩, HW6.out.put (by rw [HSL.out]; exact hlt) HX.out⟩
        case measure => simp [intOf]; omega
      · have hkN : ¬ ((k : Int) < (N : Int)) := by omega
        have hW := HW.out
        rw [show k = N by omega] at hW
        have HO := Lib.hid hW.o
        have HK := Lib.hid hW.k
        clear hW HW
        go_wp2
        go_ret2
        have ho := HO.out
        rw [show upTo (secs tb ex ver (ls s)) N = secs tb ex ver (ls s) by rw [← HSL.out, upTo_all]] at ho
        exact ⟨.slice (some ⟨g, 0, none⟩) N N, by show Ending.returned (.tuple #[.slice (some ⟨g, 0, none⟩) N N, .int .i64 0]) = _; rw [HSP.out], by rw [HSP.out]; exact ho, HK.out⟩
  · have hsp := spl_bad (tb := tb) (ex := ex) (ver := ver) (l := ls s) (by omega) hc
    rw [hbase] at hc hsp
    obtain ⟨r, hr⟩ : ∃ r, chk ⟨tb, false, ex, ver, true, 0, (la : Int), ⟨#[]⟩⟩ = r := ⟨_, rfl⟩
    simp only [hr] at HCK hc hsp
    have HSP := Lib.hid hsp
    have hrb : (r != 0) = true := by simpa using hc
    clear hr hsp hc hla hla2 hbase hb1
    go_enter Try.func12, Try.ntmps12
    go_wp2_with (go_at_call 32; refine (HCK.out _).mono ?_; rintro _ w2 ⟨rfl, k2⟩)
    go_ret2
    exact ⟨.slice none 0 0, by show Ending.returned (.tuple #[.slice none 0 0, .int .i64 r]) = _; rw [HSP.out], by rw [HSP.out]; exact OwnE.nil _ _, (hk.alloc _).trans k2⟩
end Go.Proofs.Ytofnokikjfmfgaa
