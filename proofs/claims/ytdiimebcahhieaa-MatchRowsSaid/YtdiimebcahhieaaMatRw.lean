/-
  The walks of MatchRows: if the package's functions answer as they must, it returns true.
-/
import Derived.Test.YtdiimebcahhieaaMatFx
namespace Go.Proofs.Ytdiimebcahhieaa
open Go.RowKit Mt Go.Lib
theorem rows_out (S : Spec) (c : UInt8) (n : Int) (h : n < 0 ∨ 2000 < n) (w : World) :
    Calls Try.prog 5 #[.int .u8 (c.toNat : Int), .int .i64 n] w fun e w' => e = .returned (.bool true) ∧ Below w.heap.size w w' := by
  rcases h with h | h
  all_goals
    go_enter Try.func5, Try.ntmps5
    go_wp2_with (first
      | (go_at_call 6; ((with_reducible refine (fixed_any S w).mono ?_); rintro e w1 ⟨rfl, H1⟩; replace H1 := Lib.hid H1))
      | (go_at_call 6; ((with_reducible refine (fixed_any S _).mono ?_); rintro e w2 ⟨rfl, H2⟩; replace H2 := Lib.hid H2)))
    go_ret
    exact ⟨rfl, H1.out.next H2.out⟩
theorem rep_more (c : UInt8) (k : Nat) : List.replicate (k + 1) c = List.replicate k c ++ [c] := by rw [List.replicate_succ']
set_option maxHeartbeats 1000000 in
theorem rows_in (S : Spec) (c : UInt8) (n : Nat) (hn : n ≤ 2000) (w : World) :
    Calls Try.prog 5 #[.int .u8 (c.toNat : Int), .int .i64 n] w fun e w' => e = .returned (.bool true) ∧ Below w.heap.size w w' := by
  have zn : (n : Int) ≤ 2000 := by omega
  obtain ⟨i0, hi0, hz0, hz1, hz2⟩ := info_parts info5
  go_enter Try.func5, Try.ntmps5
  go_wp2_with (go_at_call 6; ((with_reducible refine (fixed_any S w).mono ?_); rintro e w1 ⟨rfl, H1⟩; replace H1 := Lib.hid H1))
  have H0 : Hid (RowU w1 (w1.alloc (.cells #[] 5)) w1.heap.size 0 (List.replicate 0 c)) := ⟨World.ownsRow_made w1 #[] 0 (Nat.le_refl _) (by decide) rfl, (Below.refl _ _).alloc (Nat.le_refl _) _⟩
  go_loopw [5, 6] (fun v i wr => ∃ (k g cc : Nat), k ≤ n ∧ i = .int .i64 k ∧ v = .slice (some ⟨g, 0, Option.none⟩) k cc ∧ Hid (RowU w1 wr g cc (List.replicate k c))) (fun _ i _ => n - (RowKit.intOf i).toNat)
  case atStart => exact ⟨0, _, 0, Nat.zero_le _, rfl, rfl, H0⟩
  case round =>
    clear H0
    obtain ⟨k, g, cc, hk, rfl, rfl, HS⟩ := hrel
    by_cases hlt : k < n
    · have ki : (k : Int) < n := by omega
      have o1 := (fun O => (HS.out.own).alloc (w := wr) O)
      rw [List.length_replicate] at o1
      have o2 := one_byte wr c
      have o3 : w1.heap.size ≤ (wr.alloc (.cells #[.int .u8 (c.toNat : Int)] 5)).heap.size := by have := HS.out.below.size; simp; omega
      go_wp2_with (first
        | (at_builtin; refine wpList_append_own _ rfl _ _ 32 rfl w1.heap.size 5 i0 (.int .u8 0) 1 1 Try.underlying32 hi0 hz0 hz1 hz2 rfl (by decide) _ k (pb (List.replicate k c)) rfl (o1 _) ⟨_, 0, Option.none⟩ 1 1 (pb [c]) rfl rfl o2 (pb_one _) (by unfold maxLen; omega) (by omega) o3 ?_)
        | go_in)
      intro v1 w3 own1 gr1 nn1
      obtain ⟨g2, c2, hv1, HN⟩ := HS.out.more (m := [c]) ((Below.refl _ _).alloc (Nat.le_refl _) (.cells #[.int .u8 (c.toNat : Int)] 5)) (by rw [List.length_replicate]; exact own1) (by rw [List.length_replicate]; exact gr1) nn1
      rw [List.length_replicate] at hv1
      replace hv1 : v1 = .slice (some ⟨g2, 0, Option.none⟩) (k + 1) c2 := hv1
      subst hv1
      rw [← rep_more] at HN
      replace HN := Lib.hid HN
      clear own1 gr1 nn1 o1 o2 o3 HS
      go_wp2
      go_roundw
      case rel => exact ⟨k + 1, g2, c2, by omega, by go_num, rfl, HN⟩
      case measure => simp [RowKit.intOf]; omega
    · have e : k = n := by omega
      subst e
      have htx := HS.out.text
      rw [List.length_replicate] at htx
      have ks : ∀ w, Calls Try.prog 11 #[.string ⟨(List.replicate k c).toArray⟩] w fun e w' => ∃ p cap, e = .returned (.slice p (Mt.split (List.replicate k c) k 0).length cap) ∧ Lies w' p (Mt.split (List.replicate k c) k 0) cap ∧ Below w.heap.size w w' := fun w => by
        have h1 : (⟨(List.replicate k c).toArray⟩ : ByteArray).size = k := by rw [Lib.size_eq]; simp
        have := S.split ⟨(List.replicate k c).toArray⟩ w (by rw [h1]; exact hn)
        rw [h1] at this
        exact this
      generalize (⟨(List.replicate k c).toArray⟩ : ByteArray) = s at *
      have HB : Hid (Below w.heap.size w wr) := H1.out.next HS.out.below
      clear HS H1
      rcases Nat.eq_zero_or_pos k with h0 | h0
      · have e0 : Mt.split (List.replicate k c) k 0 = [] := by rw [h0]; rfl
        rw [e0] at ks
        simp only [List.length_nil] at ks
        have hk0 : (k : Int) = 0 := by omega
        subst h0
        clear e0 hk hlt
        go_wp2_with (go_at_call 11; ((with_reducible refine (ks _).mono ?_); rintro e w2 ⟨p, cap, rfl, HT, H2⟩; replace H2 := Lib.hid (HB.out.next H2)))
        go_ret
        exact ⟨rfl, H2.out⟩
      · have hc := rep_count c k h0
        obtain ⟨q, hq⟩ : ∃ q, q = (k - 1) / 18 := ⟨_, rfl⟩
        obtain ⟨r, hr⟩ : ∃ r, r = (k - 1) % 18 := ⟨_, rfl⟩
        unfold many at hc
        rw [← hq, ← hr] at hc
        have i1 : ((k : Int) - 1) / 18 = q := by omega
        have i2 : ((k : Int) - 1) % 18 = r := by omega
        have i3 : (q : Int) ≤ 2000 := by omega
        have i4 : (r : Int) ≤ 17 := by omega
        have i5 : (0 : Int) < k := by omega
        have arm : (3 ≤ r ∧ 4 ≤ k) ∨ (r < 3 ∧ k < 4) ∨ (r < 3 ∧ 4 ≤ k) := by omega
        have sec : 4 ≤ k → ∃ h : 1 < (Mt.split (List.replicate k c) k 0).length, (Mt.split (List.replicate k c) k 0)[1].dist = 1 := fun h => by
          obtain ⟨b, l, rr, e⟩ := rep_second c k h
          refine ⟨by rw [e]; simp, ?_⟩
          simp only [e]
          rfl
        clear hq hr hk hlt
        generalize Mt.split (List.replicate k c) k 0 = T at *
        obtain ⟨L, hL⟩ : ∃ L, L = T.length := ⟨_, rfl⟩
        rw [← hL] at ks hc
        have i6 : (L : Int) ≤ 3000 := by split at hc <;> omega
        have kz : 4 ≤ k → ∀ w, Calls Try.prog 11 #[.string s] w fun e w' => ∃ blk off cap, e = .returned (.slice (some ⟨blk, off, Option.none⟩) L cap) ∧ w'.cell? ⟨blk, off + 4, Option.none⟩ = some (.int .i64 1) ∧ 1 < L ∧ Below w.heap.size w w' := fun h w => by
          obtain ⟨h1, h2⟩ := sec h
          refine (ks w).mono fun e w' ⟨p, cap, g1, g2, g3⟩ => ?_
          rcases g2.2.2 with g | ⟨blk, off, rfl, g⟩
          · subst g; simp at h1
          · have := g.dist 1 h1
            rw [h2] at this
            exact ⟨blk, off, cap, g1, this, by rw [hL]; exact h1, g3⟩
        clear sec
        have HL := Lib.hid hL
        clear hL
        rcases arm with ⟨a, b⟩ | ⟨a, b⟩ | ⟨a, b⟩
        case' neg.inr.inl =>
          rw [if_pos a] at hc
          have kw := kz b
          have j1 : 3 ≤ (r : Int) := by omega
          have j2 : 4 ≤ (k : Int) := by omega
          have j3 : 1 + (q : Int) + 1 = L := by omega
          clear hc a b kz ks
          go_wp2_with (go_at_call 11; ((with_reducible refine (kw _).mono ?_); rintro e w2 ⟨blk, off, cap, rfl, g1, g2, H2⟩; have g3 : (1 : Int) < L := (by omega); replace H2 := Lib.hid (HB.out.next H2)))
        case' neg.inr.inr.inl =>
          rw [if_neg (by omega)] at hc
          have j1 : ¬ (3 ≤ (r : Int)) := by omega
          have j2 : (k : Int) < 4 := by omega
          have j3 : 1 + (q : Int) + r = L := by omega
          clear hc a b kz
          go_wp2_with (go_at_call 11; ((with_reducible refine (ks _).mono ?_); rintro e w2 ⟨p, cap, rfl, HT, H2⟩; replace H2 := Lib.hid (HB.out.next H2)))
        case' neg.inr.inr.inr =>
          rw [if_neg (by omega)] at hc
          have kw := kz b
          have j1 : ¬ (3 ≤ (r : Int)) := by omega
          have j2 : 4 ≤ (k : Int) := by omega
          have j3 : 1 + (q : Int) + r = L := by omega
          clear hc a b kz ks
          go_wp2_with (go_at_call 11; ((with_reducible refine (kw _).mono ?_); rintro e w2 ⟨blk, off, cap, rfl, g1, g2, H2⟩; have g3 : (1 : Int) < L := (by omega); replace H2 := Lib.hid (HB.out.next H2)))
        all_goals
          go_ret
          exact ⟨rfl, H2.out⟩
end Go.Proofs.Ytdiimebcahhieaa

