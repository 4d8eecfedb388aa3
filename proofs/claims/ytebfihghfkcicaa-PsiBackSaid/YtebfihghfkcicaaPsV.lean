/-
  Tables of programs and of their streams in memory, and whether they are few (for layer 17's statements). The memory that was there stays.
-/
import Derived.Test.YtebfihghfkcicaaPsMath
import Derived.Test.YtebfihghfkcicaaFoot
import Derived.Test.YtebfihghfkcicaaRowArgs
namespace Go.Proofs.Ytebfihghfkcicaa
open Go.RowKit Gf Ps
set_option maxRecDepth 100000
/-- Rows of programs. -/
def rowPr : RowT (Int × Int) where
  E := 52
  S := 22
  sz := 2
  bs := 16
  z := .agg #[.int .i64 0, .int .i64 0]
  enc := fun p => [.int .i64 p.1, .int .i64 p.2]
  und := Try.underlying22
  info := by kernel_rfl
  zs := rfl
  pos := by decide
  small := by decide
  len := fun _ => rfl
  one := fun a u hu => by simp only [List.mem_cons, List.not_mem_nil, or_false] at hu; rcases hu with rfl | rfl <;> rfl
/-- Rows of streams. -/
def rowSt : RowT Strm where
  E := 50
  S := 25
  sz := 3
  bs := 32
  z := .agg #[.int .i64 0, .int .i64 0, .string ⟨#[]⟩]
  enc := fun s => [.int .i64 s.kind, .int .i64 s.pid, .string s.info]
  und := Try.underlying25
  info := by kernel_rfl
  zs := rfl
  pos := by decide
  small := by decide
  len := fun _ => rfl
  one := fun a u hu => by simp only [List.mem_cons, List.not_mem_nil, or_false] at hu; rcases hu with rfl | rfl | rfl <;> rfl
/-- The document's streams: Kind, Pid, To, Info. -/
structure Qst where
  kind : Int
  pid : Int
  to : Int
  info : ByteArray
abbrev qsC (s : Qst) : List Value := [.int .i64 s.kind, .int .i64 s.pid, .int .i64 s.to, .string s.info]
abbrev qsV (s : Qst) : Value := .agg #[.int .i64 s.kind, .int .i64 s.pid, .int .i64 s.to, .string s.info]
theorem qsC_one (s : Qst) : ∀ u ∈ qsC s, u.oneCell' = true := by
  intro u hu
  simp only [qsC, List.mem_cons, List.not_mem_nil, or_false] at hu
  rcases hu with rfl | rfl | rfl | rfl <;> rfl
def rowQs : RowT Qst where
  E := 59
  S := 39
  sz := 4
  bs := 40
  z := .agg #[.int .i64 0, .int .i64 0, .int .i64 0, .string ⟨#[]⟩]
  enc := qsC
  und := Try.underlying39
  info := by kernel_rfl
  zs := rfl
  pos := by decide
  small := by decide
  len := fun _ => rfl
  one := qsC_one
abbrev patV (x : Pat) (a : Option Addr) (cap : Nat) : Value := .agg #[.int .i64 x.str, .int .i64 x.ver, .slice a x.l.length cap]
abbrev pmtV (x : Pmt) (a : Option Addr) (cap : Nat) : Value := .agg #[.int .i64 x.prog, .int .i64 x.ver, .int .i64 x.clock, .string x.info, .slice a x.l.length cap]
theorem fewpat_any (s v : Int) (a : Option Addr) (n cap : Nat) (w : World) : Calls Try.prog 6 #[.agg #[.int .i64 s, .int .i64 v, .slice a n cap]] w fun e w' => e = .returned (.bool (decide (n ≤ 300))) ∧ Keeps w w' := by
  obtain ⟨wA, hA⟩ : ∃ wX, w.alloc (.cells #[.int .i64 s, .int .i64 v, .slice a n cap] 24) = wX := ⟨_, rfl⟩
  obtain ⟨b, hb⟩ : ∃ b, w.heap.size = b := ⟨_, rfl⟩
  have HA := Lib.hid (CsAns.start (Keeps.refl w) (a := #[.int .i64 s, .int .i64 v, .slice a n cap]) (by simp) hb hA)
  have q2 := HA.out.z.cell 2 rfl
  by_cases h : n ≤ 300
  · have hi : (n : Int) ≤ 300 := by omega
    rw [decide_eq_true h]
    go_enter Try.func6, Try.ntmps6
    go_wp2
    go_ret
    exact ⟨rfl, HA.out.k⟩
  · have hi : ¬ (n : Int) ≤ 300 := by omega
    rw [decide_eq_false h]
    go_enter Try.func6, Try.ntmps6
    go_wp2
    go_ret
    exact ⟨rfl, HA.out.k⟩
/-- Is a Pmt not too much? -/
def fewM (x : Pmt) : Bool := decide (∀ s ∈ x.l, s.info.size ≤ 1200) && (decide (x.l.length ≤ 60) && decide (x.info.size ≤ 1200))
def fmRel (wA : World) (l : List Strm) (i : Value) (wr : World) : Prop := ∃ k : Nat, k ≤ l.length ∧ i = .int .i64 (k : Int) ∧ (∀ s ∈ l.take k, s.info.size ≤ 1200) ∧ wA = wr
set_option maxHeartbeats 3200000 in
theorem fewpmt_any (x : Pmt) {a : Option Addr} {n cap : Nat} (w : World) (h : IsE rowSt w a n x.l) (hn : n ≤ maxLen) :
    Calls Try.prog 7 #[.agg #[.int .i64 x.prog, .int .i64 x.ver, .int .i64 x.clock, .string x.info, .slice a n cap]] w fun e w' => e = .returned (.bool (fewM x)) ∧ Keeps w w' := by
  obtain ⟨pr, ve, cl, inf, l⟩ := x
  simp only at h ⊢
  obtain ⟨wA, hA⟩ : ∃ wX, w.alloc (.cells #[.int .i64 pr, .int .i64 ve, .int .i64 cl, .string inf, .slice a n cap] 27) = wX := ⟨_, rfl⟩
  obtain ⟨b, hb⟩ : ∃ b, w.heap.size = b := ⟨_, rfl⟩
  have HA := Lib.hid (CsAns.start (Keeps.refl w) (a := #[.int .i64 pr, .int .i64 ve, .int .i64 cl, .string inf, .slice a n cap]) (by simp) hb hA)
  have HI := Lib.hid (h.keeps HA.out.k)
  have HN := Lib.hid h.1
  have hnb : n ≤ 9223372036854775807 := hn
  have q3 := HA.out.z.cell 3 rfl
  have q4 := HA.out.z.cell 4 rfl
  clear h hn
  go_enter Try.func7, Try.ntmps7
  go_wp2
  go_loop [3] (fun i => ∃ k : Nat, k ≤ n ∧ i = .int .i64 (k : Int) ∧ ∀ s ∈ l.take k, s.info.size ≤ 1200) (fun i => n - (intOf i).toNat)
  case atStart => exact ⟨0, Nat.zero_le _, rfl, by simp⟩
  case round =>
    obtain ⟨k, hk, rfl, hall⟩ := hrel
    have HALL := Lib.hid hall
    clear hall
    by_cases hlt : k < n
    · have hlI : (k : Int) < (n : Int) := by omega
      have hkL : k < l.length := by have := HN.out; omega
      obtain ⟨b1, off, rfl, _, hc⟩ := HI.out.get hkL
      have hc2 : wA.cell? ⟨b1, off + k * 3 + 2, none⟩ = some (.string l[k].info) := by have := hc 2 _ rfl; rwa [← Nat.add_assoc] at this
      have wr1 := wrapI (a := (k : Int) + 1)
      have HNX := Lib.hid (show l[k].info.size ≤ 1200 → ∀ s ∈ l.take (k + 1), s.info.size ≤ 1200 from fun h s hs => by
        rw [List.take_add_one, List.getElem?_eq_getElem hkL] at hs
        rcases List.mem_append.1 hs with y | y
        · exact HALL.out s y
        · rw [List.mem_singleton.1 y]; exact h)
      have HNO := Lib.hid (show ¬ l[k].info.size ≤ 1200 → fewM ⟨pr, ve, cl, inf, l⟩ = false from fun h => by
        unfold fewM
        rw [decide_eq_false (fun hx => h (hx _ (List.getElem_mem hkL))), Bool.false_and])
      obtain ⟨T, hT⟩ : ∃ T, l[k].info = T := ⟨_, rfl⟩
      rw [hT] at hc2 HNX HNO
      clear hc hT
      by_cases h5 : T.size ≤ 1200
      · have h5i : ¬ (1200 : Int) < (T.size : Int) := by omega
        replace HNX := Lib.hid (HNX.out h5)
        clear h5
        go_wp2
        go_round
        case rel => exact ⟨k + 1, by omega, by go_num, HNX.out⟩
        case measure => simp [intOf]; omega
      · have h5i : (1200 : Int) < (T.size : Int) := by omega
        have HE := Lib.hid (HNO.out h5)
        clear h5
        go_wp2
        go_ret
        exact ⟨by rw [HE.out]; rfl, HA.out.k⟩
    · have hlI : ¬ (k : Int) < (n : Int) := by omega
      have HE := Lib.hid (show fewM ⟨pr, ve, cl, inf, l⟩ = (decide ((n : Int) ≤ 60) && decide ((inf.size : Int) ≤ 1200)) by
        have htk : l.take k = l := List.take_of_length_le (by have := HN.out; omega)
        unfold fewM
        rw [decide_eq_true (by rw [← htk]; exact HALL.out), Bool.true_and]
        have h1 : decide (l.length ≤ 60) = decide ((n : Int) ≤ 60) := decide_eq_decide.2 (by have := HN.out; omega)
        have h2 : decide (inf.size ≤ 1200) = decide ((inf.size : Int) ≤ 1200) := decide_eq_decide.2 (by omega)
        rw [h1, h2])
      by_cases h1 : (n : Int) ≤ 60
      · by_cases h2 : (inf.size : Int) ≤ 1200
        · rw [decide_eq_true h1, decide_eq_true h2] at HE
          go_wp2
          go_ret
          exact ⟨by rw [HE.out]; rfl, HA.out.k⟩
        · rw [decide_eq_true h1, decide_eq_false h2] at HE
          go_wp2
          go_ret
          exact ⟨by rw [HE.out]; rfl, HA.out.k⟩
      · rw [decide_eq_false h1, Bool.false_and] at HE
        go_wp2
        go_ret
        exact ⟨by rw [HE.out]; rfl, HA.out.k⟩
end Go.Proofs.Ytebfihghfkcicaa
