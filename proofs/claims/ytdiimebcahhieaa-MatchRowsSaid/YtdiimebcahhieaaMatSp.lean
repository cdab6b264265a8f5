/-
  What the package's functions must answer, told as one structure; the document's Same of like lists; Expand of no tokens.
-/
import Derived.Test.YtdiimebcahhieaaMatEx
import Derived.BigQuiet
namespace Go.Proofs.Ytdiimebcahhieaa
open Go.RowKit Mt Go.Lib
/-- a list of tokens, and where it lies -/
def Lies (w : World) (p : Option Addr) (T : List Tok) (cap : Nat) : Prop := T.length ≤ cap ∧ cap ≤ maxLen ∧ (T = [] ∨ ∃ blk off, p = some ⟨blk, off, Option.none⟩ ∧ ToksAt w blk off T)
theorem Lies.below {w w' : World} {p : Option Addr} {T : List Tok} {cap : Nat} (h : Lies w p T cap) (hb : Below w.heap.size w w') : Lies w' p T cap := by
  refine ⟨h.1, h.2.1, ?_⟩
  rcases h.2.2 with k | ⟨blk, off, rfl, k⟩
  · exact .inl k
  · exact .inr ⟨blk, off, rfl, k.below hb⟩
structure Spec : Prop where
  may : ∀ (t : Tok) (w : World), Calls Try.prog 9 #[.agg #[.int .i64 t.byte, .int .i64 t.dist, .int .i64 t.len]] w fun e w' => e = .returned (.bool (Mt.may t)) ∧ Below w.heap.size w w'
  expand : ∀ (T : List Tok) (p : Option Addr) (cap : Nat) (most : Int) (w : World), T.length ≤ 2000 → Lies w p T cap →
    Calls Try.prog 7 #[.slice p T.length cap, .int .i64 most] w fun e w' => e = .returned (told (Mt.expand most [] T)) ∧ Below w.heap.size w w'
  split : ∀ (s : ByteArray) (w : World), s.size ≤ 2000 → Calls Try.prog 11 #[.string s] w fun e w' => ∃ p cap, e = .returned (.slice p (Mt.split s.data.toList s.size 0).length cap) ∧ Lies w' p (Mt.split s.data.toList s.size 0) cap ∧ Below w.heap.size w w'
  longest : ∀ (s : ByteArray) (p : Nat) (w : World), s.size ≤ 2000 → Calls Try.prog 12 #[.string s, .int .i64 p] w fun e w' => e = .returned (.tuple #[.int .i64 ((Mt.longest s.data.toList p).2 : Nat), .int .i64 ((Mt.longest s.data.toList p).1 : Nat)]) ∧ Below w.heap.size w w'
theorem expand_none (p : Option Addr) (cap : Nat) (most : Int) (w : World) :
    Calls Try.prog 8 #[.slice p 0 cap, .int .i64 most] w fun e w' => e = .returned (told (some [])) ∧ Below w.heap.size w w' := by
  have H0 : Hid (RowU w (w.alloc (.cells #[] 5)) w.heap.size 0 []) := ⟨World.ownsRow_made w #[] 0 (Nat.le_refl _) (by decide) rfl, (Below.refl _ _).alloc (Nat.le_refl _) _⟩
  have htx := H0.out.text
  simp only [List.length_nil] at htx
  go_enter Try.func8, Try.ntmps8
  go_wp2
  go_loopw [6, 7, 8, 9] (fun v n _ _ wr => v = .slice (some ⟨w.heap.size, 0, Option.none⟩) 0 0 ∧ n = .int .i64 0 ∧ wr = w.alloc (.cells #[] 5)) (fun _ _ _ _ _ => 0)
  case atStart => exact ⟨rfl, rfl, rfl⟩
  case round =>
    obtain ⟨rfl, rfl, rfl⟩ := hrel
    go_wp2
    go_ret2
    exact ⟨rfl, H0.out.below⟩
theorem expand_doc (T : List Tok) (p : Option Addr) (cap : Nat) (most : Int) (w : World) (hn : T.length ≤ 2000) (h : Lies w p T cap) :
    Calls Try.prog 8 #[.slice p T.length cap, .int .i64 most] w fun e w' => e = .returned (told (Mt.expand most [] T)) ∧ Below w.heap.size w w' := by
  rcases h.2.2 with rfl | ⟨blk, off, rfl, k⟩
  · exact expand_none p cap most w
  · exact expand_ref T blk off cap most hn w k
set_option maxHeartbeats 1000000 in
theorem same_like (T : List Tok) (hn : T.length ≤ 2000) (b1 o1 c1 b2 o2 c2 : Nat) (w : World) (h1 : ToksAt w b1 o1 T) (h2 : ToksAt w b2 o2 T) :
    Calls Try.prog 13 #[.slice (some ⟨b1, o1, Option.none⟩) T.length c1, .slice (some ⟨b2, o2, Option.none⟩) T.length c2] w fun e w' => e = .returned (.bool true) ∧ Below w.heap.size w w' := by
  have HC := Lib.hid h1
  have HD := Lib.hid h2
  clear h1 h2
  have zn : (T.length : Int) ≤ 2000 := by omega
  go_enter Try.func13, Try.ntmps13
  go_wp2
  go_loopw [5] (fun i wr => ∃ k : Nat, k ≤ T.length ∧ i = .int .i64 k ∧ Hid (Below w.heap.size w wr)) (fun i _ => T.length - (RowKit.intOf i).toNat)
  case atStart => exact ⟨0, Nat.zero_le _, rfl, Lib.hid (Below.refl _ _)⟩
  case round =>
    obtain ⟨k, hk, rfl, HW⟩ := hrel
    by_cases hlt : k < T.length
    · obtain ⟨a1, a2, a3⟩ := may_at HC.out HW.out k hlt
      obtain ⟨d1, d2, d3⟩ := may_at HD.out HW.out k hlt
      have ki : (k : Int) < T.length := by omega
      generalize T[k] = t at *
      go_wp2_with fail
      go_quiet (fail)
      simp only [Exit.then]
      go_wp2
      go_roundw
      case rel => exact ⟨k + 1, by omega, by go_num, Lib.hid (below_drewN HW.out _)⟩
      case measure => simp [RowKit.intOf]; omega
    · have e : k = T.length := by omega
      subst e
      go_wp2
      go_ret
      exact ⟨rfl, HW.out⟩
end Go.Proofs.Ytdiimebcahhieaa

