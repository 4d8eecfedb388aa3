/-
  What layer 16's statements ask of package joiner's calls (nothing is said here of how they do it). The memory that was there stays.
-/
import Derived.Test.YtifbomppgflkfaaDoorJnMath
import Derived.Test.YtifbomppgflkfaaDoorPkV
import Derived.Test.YtifbomppgflkfaaDoorFoot
namespace Go.Proofs.YtifbomppgflkfaaDoor
open Go.RowKit Gf Pk Jn
set_option maxRecDepth 100000
/-- A call of a joiner's that answers sections and an error: what it answers, and what the joiner is behind it; the row that is answered lies apart from the joiner. -/
def JnGoes (At : (Nat → Prop) → Nat → Int → JS → World → Prop) (S : Nat → Prop) (p : Nat) (pid : Int) (q : JS × List (List UInt8) × Int) (w : World) (e : Ending) (w' : World) : Prop :=
  ∃ a cap S', e = .returned (.tuple #[.slice a q.2.1.length cap, .int .i64 q.2.2]) ∧ IsT w' a q.2.1.length q.2.1 ∧ q.2.1.length ≤ cap ∧ At S' p pid q.1 w' ∧ Foot S w w' ∧ Grew S S' w ∧ ∀ x, a = some x → ¬ S' x.block ∧ w.heap.size ≤ x.block
/-- Feed of what bytes are. -/
def feedD (pid : Int) (J : JS) (s : List UInt8) : JS × List (List UInt8) × Int := if dcE s = 0 then feed pid J (dcP s) else (J, [], dcE s)
/-- What is asked of package joiner: Ok tells what its package-level tables are to hold. -/
structure JnApi where
  At : (Nat → Prop) → Nat → Int → JS → World → Prop
  Ok : World → Prop
  okK : ∀ {w w'}, Ok w → Keeps w w' → Ok w'
  old : ∀ {S p pid J w}, At S p pid J w → ∀ k, S k → k < w.heap.size
  foot : ∀ {S T : Nat → Prop} {p pid J w w'}, At S p pid J w → Foot T w w' → (∀ k, S k → ¬ T k) → At S p pid J w'
  newOk : ∀ (pid : Int) (w : World), 0 ≤ pid ∧ pid ≤ 8190 → Calls Tryd.prog 8 #[.int .i64 pid] w fun e w' => ∃ p S, e = .returned (.tuple #[.pointer (some ⟨p, 0, none⟩), .int .i64 0]) ∧ At S p pid js0 w' ∧ Keeps w w' ∧ ∀ b, S b → w.heap.size ≤ b
  newNo : ∀ (pid : Int) (w : World), ¬ (0 ≤ pid ∧ pid ≤ 8190) → Calls Tryd.prog 8 #[.int .i64 pid] w fun e w' => e = .returned (.tuple #[.pointer none, .int .i64 15]) ∧ Keeps w w'
  feed : ∀ {S p pid J w} (q : Pkt), At S p pid J w → Ok w → q.body.size ≤ 1000 → J.hold.length ≤ 5000 → 0 ≤ J.lost ∧ J.lost ≤ 1000000 → Calls Tryd.prog 10 #[.pointer (some ⟨p, 0, none⟩), pkV q] w (JnGoes At S p pid (feed pid J q) w)
  bytes : ∀ {S p pid J w} (s : ByteArray), At S p pid J w → Ok w → s.size ≤ 1000 → J.hold.length ≤ 5000 → 0 ≤ J.lost ∧ J.lost ≤ 1000000 → Calls Tryd.prog 17 #[.pointer (some ⟨p, 0, none⟩), .string s] w (JnGoes At S p pid (feedD pid J (ls s)) w)
  held : ∀ {S p pid J w}, At S p pid J w → Calls Tryd.prog 14 #[.pointer (some ⟨p, 0, none⟩)] w fun e w' => e = .returned (.string (st J.hold)) ∧ Keeps w w'
  lost : ∀ {S p pid J w}, At S p pid J w → Calls Tryd.prog 15 #[.pointer (some ⟨p, 0, none⟩)] w fun e w' => e = .returned (.int .i64 J.lost) ∧ Keeps w w'
  drop : ∀ {S p pid J w}, At S p pid J w → Calls Tryd.prog 16 #[.pointer (some ⟨p, 0, none⟩)] w fun e w' => ∃ S', (∃ v, e = .returned v) ∧ At S' p pid (drop J) w' ∧ Foot S w w' ∧ Grew S S' w
  nFeed : ∀ (q : Pkt) (w : World), q.body.size ≤ 1000 → Calls Tryd.prog 10 #[.pointer none, pkV q] w fun e w' => (∃ a cap, e = .returned (.tuple #[.slice a 0 cap, .int .i64 2])) ∧ Keeps w w'
  nBytes : ∀ (s : ByteArray) (w : World), s.size ≤ 1000 → Calls Tryd.prog 17 #[.pointer none, .string s] w fun e w' => (∃ a cap, e = .returned (.tuple #[.slice a 0 cap, .int .i64 2])) ∧ Keeps w w'
  nHeld : ∀ (w : World), Calls Tryd.prog 14 #[.pointer none] w fun e w' => e = .returned (.string ⟨#[]⟩) ∧ Keeps w w'
  nLost : ∀ (w : World), Calls Tryd.prog 15 #[.pointer none] w fun e w' => e = .returned (.int .i64 0) ∧ Keeps w w'
  nDrop : ∀ (w : World), Calls Tryd.prog 16 #[.pointer none] w fun e w' => (∃ v, e = .returned v) ∧ Keeps w w'
/-- What is held is always less than a section. -/
theorem feed_hold {pid : Int} {J : JS} (p : Pkt) (h : J.hold.length < 4096) : (Jn.feed pid J p).1.hold.length < 4096 := by
  have h0 : (0 : Nat) < 4096 := by decide
  have hs : (lookJ J p).hold.length < 4096 := by
    unfold lookJ
    split
    · exact h0
    · exact h
  unfold Jn.feed
  split
  · exact h
  · split
    · exact h
    · split
      · exact h
      · split
        · exact h0
        · unfold feedB
          split
          · split
            · exact hs
            · exact (tk_hold _).1
          · split
            · exact h0
            · exact (tk_hold _).1
/-- How often something was missing: once more at most. -/
theorem feed_lost {pid : Int} {J : JS} (p : Pkt) : J.lost ≤ (Jn.feed pid J p).1.lost ∧ (Jn.feed pid J p).1.lost ≤ J.lost + 1 := by
  have hs : J.lost ≤ (lookJ J p).lost ∧ (lookJ J p).lost ≤ J.lost + 1 := by
    unfold lookJ
    split
    · exact ⟨by show J.lost ≤ J.lost + 1; omega, Int.le_refl _⟩
    · exact ⟨Int.le_refl _, by show J.lost ≤ J.lost + 1; omega⟩
  have hsame : J.lost ≤ J.lost ∧ J.lost ≤ J.lost + 1 := by omega
  unfold Jn.feed
  split
  · exact hsame
  · split
    · exact hsame
    · split
      · exact hsame
      · split
        · exact ⟨by show J.lost ≤ J.lost + 1; omega, Int.le_refl _⟩
        · unfold feedB
          split
          · split
            · exact hs
            · exact hs
          · split
            · exact hs
            · exact hs
/-- How many sections are answered. -/
theorem tkF_outs : ∀ (f : Nat) (l : List UInt8), (tkF f l).out.length ≤ f
  | 0, l => Nat.le_refl 0
  | f + 1, l => by
    have h0 : ([] : List (List UInt8)).length ≤ f + 1 := Nat.zero_le _
    unfold tkF
    split
    · exact h0
    · split
      · exact h0
      · split
        · exact h0
        · split
          · exact h0
          · split
            · exact h0
            · exact Nat.succ_le_succ (tkF_outs f _)
theorem tk_outs (l : List UInt8) : (tk l).out.length ≤ l.length := tkF_outs _ l
theorem feed_outs {pid : Int} {J : JS} (p : Pkt) : (Jn.feed pid J p).2.1.length ≤ J.hold.length + 3 * p.body.size := by
  have h0 : ([] : List (List UInt8)).length ≤ J.hold.length + 3 * p.body.size := Nat.zero_le _
  have hs : (lookJ J p).hold.length ≤ J.hold.length := by
    unfold lookJ
    split
    · exact Nat.zero_le _
    · exact Nat.le_refl _
  have hb := ls_size p.body
  unfold Jn.feed
  split
  · exact h0
  · split
    · exact h0
    · split
      · exact h0
      · split
        · exact h0
        · unfold feedB
          split
          · split
            · exact h0
            · have h1 := tk_outs ((lookJ J p).hold ++ ls p.body)
              rw [List.length_append] at h1
              show (tk ((lookJ J p).hold ++ ls p.body)).out.length ≤ _
              omega
          · split
            · exact h0
            · have h2 := tk_outs ((ls p.body).drop (1 + (cf (ls p.body) 0).toNat))
              have h3 := tk_outs ((lookJ J p).hold ++ ((ls p.body).drop 1).take (cf (ls p.body) 0).toNat)
              rw [List.length_drop] at h2
              rw [List.length_append, List.length_take, List.length_drop] at h3
              show (_ ++ _ : List (List UInt8)).length ≤ _
              rw [List.length_append]
              split
              · omega
              · rw [List.length_nil]; omega
end Go.Proofs.YtifbomppgflkfaaDoor
