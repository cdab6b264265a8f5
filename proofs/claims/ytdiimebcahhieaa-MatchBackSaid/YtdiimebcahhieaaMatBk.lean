/-
  The walks of MatchBack: if the package's functions answer as they must, it returns true.
-/
import Derived.Test.YtdiimebcahhieaaMatMx
namespace Go.Proofs.Ytdiimebcahhieaa
open Go.RowKit Mt Go.Lib
theorem back_big (S : Spec) (s : ByteArray) (hn : 2000 < s.size) (hm : s.size ≤ 140737488351232) (w : World) :
    Calls Try.prog 4 #[.string s] w fun e w' => e = .returned (.bool true) ∧ Below w.heap.size w w' := by
  have h1 : 2000 < (s.size : Int) := by omega
  have h2 : (s.size : Int) ≤ 140737488351232 := by omega
  go_enter Try.func4, Try.ntmps4
  go_wp2_with (first
    | (go_at_call 6; ((with_reducible refine (fixed_any S w).mono ?_); rintro e w1 ⟨rfl, H1⟩; replace H1 := Lib.hid H1))
    | (go_at_call 6; ((with_reducible refine (fixed_any S _).mono ?_); rintro e w2 ⟨rfl, H2⟩; replace H2 := Lib.hid H2)))
  go_ret
  exact ⟨rfl, H1.out.next H2.out⟩
set_option maxHeartbeats 1000000 in
theorem back_in (S : Spec) (s : ByteArray) (hn : s.size ≤ 2000) (h0 : 0 < s.size) (w : World) :
    Calls Try.prog 4 #[.string s] w fun e w' => e = .returned (.bool true) ∧ Below w.heap.size w w' := by
  have hsz := Lib.size_eq s
  have zs : (s.size : Int) ≤ 2000 := by omega
  have zp : (0 : Int) < s.size := by omega
  have k1 := fun w => S.split s w hn
  have ke := fun (T : List Tok) (p : Option Addr) (cap : Nat) (most : Int) (w : World) => S.expand T p cap most w
  have e1 : Mt.expand (s.size : Int) [] (Mt.split s.data.toList s.size 0) = some s.data.toList := by
    have := expand_split s.data.toList (s.size : Int) (by omega) s.size 0 (by omega) (by omega)
    rwa [List.take_zero] at this
  have e2 : Mt.expand ((s.size : Int) - 1) [] (Mt.split s.data.toList s.size 0) = none := by
    have := expand_less s.data.toList (by rintro h; rw [h, List.length_nil] at hsz; omega)
    rwa [← hsz] at this
  have e3 : (Mt.split s.data.toList s.size 0).length ≤ s.size := by
    have := split_length s.data.toList s.size 0
    omega
  have e4 : ∀ i (h : i < (Mt.split s.data.toList s.size 0).length), may (Mt.split s.data.toList s.size 0)[i] = true := fun i h => split_may _ _ _ _ (List.getElem_mem h)
  have e5 : Mt.split s.data.toList s.size 0 ≠ [] := by
    obtain ⟨k, hk⟩ : ∃ k, s.size = k + 1 := ⟨s.size - 1, by omega⟩
    rw [hk, split_more _ k 0 (by omega)]; simp
  have e6 : (⟨s.data.toList.toArray⟩ : ByteArray) = s := by cases s; simp
  generalize hT : Mt.split s.data.toList s.size 0 = T at *
  clear hT
  have kx : ∀ w, Calls Try.prog 11 #[.string s] w fun e w' => ∃ blk off cap, e = .returned (.slice (some ⟨blk, off, Option.none⟩) T.length cap) ∧ ToksAt w' blk off T ∧ T.length ≤ cap ∧ cap ≤ maxLen ∧ Below w.heap.size w w' := fun w =>
    (k1 w).mono fun e w' ⟨p, cap, h1, h2, h3⟩ => by
      obtain ⟨blk, off, rfl, h4⟩ := h2.2.2.resolve_left e5
      exact ⟨blk, off, cap, h1, h4, h2.1, h2.2.1, h3⟩
  have ky : ∀ {w : World} {blk off cap : Nat}, ToksAt w blk off T → T.length ≤ cap → cap ≤ maxLen → Calls Try.prog 7 #[.slice (some ⟨blk, off, Option.none⟩) T.length cap, .int .i64 (s.size : Int)] w fun e w' => e = .returned (.tuple #[.string s, .bool true]) ∧ Below w.heap.size w w' := fun {w blk off cap} h1 h2 h3 => by
    have := S.expand T (some ⟨blk, off, Option.none⟩) cap (s.size : Int) w (by omega) ⟨h2, h3, .inr ⟨blk, off, rfl, h1⟩⟩
    rw [e1] at this
    simp only [told] at this
    rw [e6] at this
    exact this
  have kn : ∀ {w : World} {blk off cap : Nat}, ToksAt w blk off T → T.length ≤ cap → cap ≤ maxLen → Calls Try.prog 7 #[.slice (some ⟨blk, off, Option.none⟩) T.length cap, .int .i64 ((s.size : Int) - 1)] w fun e w' => e = .returned (.tuple #[.string ⟨#[]⟩, .bool false]) ∧ Below w.heap.size w w' := fun {w blk off cap} h1 h2 h3 => by
    have := S.expand T (some ⟨blk, off, Option.none⟩) cap ((s.size : Int) - 1) w (by omega) ⟨h2, h3, .inr ⟨blk, off, rfl, h1⟩⟩
    rw [e2] at this
    exact this
  have zt : (T.length : Int) ≤ s.size := by omega
  have H4 := Lib.hid e4
  clear k1 ke e1 e2 e3 e4 e5 e6 hsz hn h0
  go_enter Try.func4, Try.ntmps4
  go_wp2_with (first
    | (go_at_call 6; ((with_reducible refine (fixed_any S w).mono ?_); rintro e w1 ⟨rfl, H1⟩; replace H1 := Lib.hid H1))
    | (go_at_call 11; ((with_reducible refine (kx _).mono ?_); rintro e w2 ⟨blk, off, cap, rfl, HT, g1, g2, H2⟩; replace HT := Lib.hid HT; replace H2 := Lib.hid (H1.out.next H2); replace g2 := Lib.hid g2))
    | (go_at_call 7; ((with_reducible refine (ky HT.out g1 g2.out).mono ?_); rintro e w3 ⟨rfl, H3⟩; replace H3 := Lib.hid H3))
    | (go_at_call 7; ((with_reducible refine (kn (HT.out.below H3.out) g1 g2.out).mono ?_); rintro e w5 ⟨rfl, H5⟩; replace H5 := Lib.hid (H3.out.next H5))))
  go_loopw [8] (fun i wr => ∃ k : Nat, k ≤ T.length ∧ i = .int .i64 k ∧ Hid (Below w2.heap.size w2 wr)) (fun i _ => T.length - (RowKit.intOf i).toNat)
  case atStart => exact ⟨0, Nat.zero_le _, rfl, H5⟩
  case round =>
    obtain ⟨k, hk, rfl, HW⟩ := hrel
    by_cases hlt : k < T.length
    · obtain ⟨a1, a2, a3⟩ := may_at HT.out HW.out k hlt
      have m1 := S.may T[k]
      rw [H4.out k hlt] at m1
      have ki : (k : Int) < T.length := by omega
      generalize T[k] = t at *
      go_wp2_with (go_at_call 9; ((with_reducible refine (m1 _).mono ?_); rintro e w6 ⟨rfl, H6⟩; replace H6 := Lib.hid (HW.out.next H6)))
      go_roundw
      case rel => exact ⟨k + 1, by omega, by go_num, H6⟩
      case measure => simp [RowKit.intOf]; omega
    · have e : k = T.length := by omega
      subst e
      go_wp2
      go_ret
      exact ⟨rfl, H2.out.next HW.out⟩
set_option maxHeartbeats 1000000 in
theorem back_empty (S : Spec) (w : World) :
    Calls Try.prog 4 #[.string ⟨#[]⟩] w fun e w' => e = .returned (.bool true) ∧ Below w.heap.size w w' := by
  have kx : ∀ w, Calls Try.prog 11 #[.string ⟨#[]⟩] w fun e w' => ∃ p cap, e = .returned (.slice p 0 cap) ∧ Lies w' p [] cap ∧ Below w.heap.size w w' := fun w => S.split ⟨#[]⟩ w (by decide)
  have ky : ∀ {w : World} {p : Option Addr} {cap : Nat} (m : Int), Lies w p [] cap → Calls Try.prog 7 #[.slice p 0 cap, .int .i64 m] w fun e w' => e = .returned (.tuple #[.string ⟨#[]⟩, .bool true]) ∧ Below w.heap.size w w' := fun {w p cap} m h => S.expand [] p cap m w (by decide) h
  go_enter Try.func4, Try.ntmps4
  go_wp2_with (first
    | (go_at_call 6; ((with_reducible refine (fixed_any S w).mono ?_); rintro e w1 ⟨rfl, H1⟩; replace H1 := Lib.hid H1))
    | (go_at_call 11; ((with_reducible refine (kx _).mono ?_); rintro e w2 ⟨p, cap, rfl, HT, H2⟩; replace HT := Lib.hid HT; replace H2 := Lib.hid (H1.out.next H2)))
    | (go_at_call 7; ((with_reducible refine (ky 0 HT.out).mono ?_); rintro e w3 ⟨rfl, H3⟩; replace H3 := Lib.hid H3))
    | (go_at_call 7; ((with_reducible refine (ky (-1) (HT.out.below H3.out)).mono ?_); rintro e w5 ⟨rfl, H5⟩; replace H5 := Lib.hid (H3.out.next H5))))
  go_loopw [8] (fun i wr => i = .int .i64 0 ∧ wr = w5) (fun i _ => 0)
  case atStart => exact ⟨rfl, rfl⟩
  case round =>
    obtain ⟨rfl, rfl⟩ := hrel
    go_wp2
    go_ret
    exact ⟨rfl, H2.out.next H5.out⟩
end Go.Proofs.Ytdiimebcahhieaa

