/-
  container/heap's down over a row of trees in memory (over a stand-in).
-/
import Derived.Test.YtengkkbiceennaaHufUp
namespace Go.Proofs.Ytengkkbiceennaa
open Go.RowKit Go.Lib Hf
set_option maxRecDepth 100000

/-- the lesser child, told by the walk's tests -/
theorem lesser_right {X : List T} {n i : Nat} (h2 : 2 * i + 2 < n) (hlt : T.lt (g X (2 * i + 2)) (g X (2 * i + 1))) : Lesser X n i (2 * i + 2) :=
  ⟨Or.inr rfl, h2, fun k h0 hk hp => by
    rcases (show k = 2 * i + 1 ∨ k = 2 * i + 2 by omega) with h | h
    · rw [h]; exact le_of_lt hlt
    · rw [h]; exact le_refl _⟩
theorem lesser_left {X : List T} {n i : Nat} (h1 : 2 * i + 1 < n) (hle : 2 * i + 2 < n → le (g X (2 * i + 1)) (g X (2 * i + 2))) : Lesser X n i (2 * i + 1) :=
  ⟨Or.inl rfl, h1, fun k h0 hk hp => by
    rcases (show k = 2 * i + 1 ∨ k = 2 * i + 2 by omega) with h | h
    · rw [h]; exact le_refl _
    · rw [h]; exact hle (by omega)⟩

set_option maxHeartbeats 4000000 in
theorem down_at (a : Addr) (B S c L n m : Nat) (ha : a.block ≠ S) (X : List T) (hn : X.length = L) (hnL : n ≤ L) (hsz : L ≤ 1000) (w : World) (hh : w.cell? a = some (.slice (some ⟨S, 0, none⟩) L c)) (hX : Trees w B S c X) (hm1 : m ≤ 1000) (hD : Down X n m m) :
    Calls Try.prog 34 #[.iface 51 (.pointer (some a)), .int .i64 m, .int .i64 n] w fun e w' => (∃ b, e = .returned (.bool b)) ∧ Only S w w' ∧ ∃ X', X'.Perm X ∧ Hid (∀ k, n ≤ k → g X' k = g X k) ∧ From X' n m ∧ Trees w' B S c X' := by
  have HD : Hid (Down X n m m) := hD
  have HL : Hid (n ≤ L) := hnL
  have zn : (n : Int) ≤ 1000 := by omega
  have zm : (m : Int) ≤ 1000 := by omega
  clear hD hnL
  go_enter Try.func34, Try.ntmps34
  go_wp2
  go_loopw [7, 8] (fun v u wr => ∃ (k : Nat) (Y : List T), v = .int .i64 k ∧ k ≤ 1000 ∧ Hid (Down Y n m k) ∧ Hid (Y.Perm X) ∧ Hid (∀ k, n ≤ k → g Y k = g X k) ∧ Hid (Y.length = L) ∧ Hid (Trees wr B S c Y) ∧ Hid (Only S w wr)) (fun v _ _ => (1000 - (RowKit.intOf v).toNat))
  case atStart => exact ⟨m, X, rfl, by omega, HD, List.Perm.refl _, fun _ _ => rfl, hn, hX, Only.refl S w⟩
  case round =>
    obtain ⟨k, Y, rfl, hk, hDn, hP, hF, hL, hT, hO⟩ := hrel
    have mL := fun w h => meth_less a (.slice (some ⟨S, 0, none⟩) L c) w h
    have mS := fun w h => meth_swap a (.slice (some ⟨S, 0, none⟩) L c) w h
    have hhr : wr.cell? a = some (.slice (some ⟨S, 0, none⟩) L c) := by rw [hO.out.cell ha]; exact hh
    have zk2 : (k : Int) ≤ 1000 := by omega
    by_cases h1 : n ≤ 2 * k + 1
    · have z1 : (n : Int) ≤ 2 * (k : Int) + 1 := by omega
      go_wp2
      go_ret
      exact ⟨⟨_, rfl⟩, hO.out, Y, hP.out, hF.out, down_leaf hDn.out h1, hT.out⟩
    · obtain ⟨p, hp⟩ : ∃ p, p = 2 * k + 1 := ⟨_, rfl⟩
      obtain ⟨q, hq⟩ : ∃ q, q = 2 * k + 2 := ⟨_, rfl⟩
      have e1 : 2 * (k : Int) + 1 = (p : Int) := by omega
      have e2 : (p : Int) + 1 = (q : Int) := by omega
      have zp : (p : Int) < (n : Int) := by omega
      have zp0 : 0 ≤ (p : Int) := by omega
      have pn : p < n := by omega
      have pL : p < L := by have := HL.out; omega
      have kL : k < L := by have := HL.out; omega
      have Hp : Hid (p = 2 * k + 1) := hp
      have Hq : Hid (q = 2 * k + 2) := hq
      have Hn : Hid (k < n) := by have : k < n := by omega
                                  exact this
      clear hp hq h1
      have hless : ∀ (i j : Nat) (b : Bool) (w2 : World), i < L → j < L → decide (T.lt (g Y i) (g Y j)) = b → Trees w2 B S c Y → Calls Try.prog 54 #[.slice (some ⟨S, 0, none⟩) L c, .int .i64 i, .int .i64 j] w2 fun e w' => e = .returned (.bool b) ∧ Only S w2 w' ∧ Trees w' B S c Y :=
        fun i j b w2 hi hj hb hT2 => by rw [← hb]; exact less_row hT2 hL.out i j hi hj
      have HLe : Aside _ := hless
      clear hless
      by_cases h2 : q < n
      · have z2 : (q : Int) < (n : Int) := by omega
        have qL : q < L := by have := HL.out; omega
        cases hl : decide (T.lt (g Y q) (g Y p)) with
        | true =>
          have hc1 := HLe.out q p true wr qL pL hl hT.out
          have HLs : Hid (Lesser Y n k q) := by rw [Hq.out]; exact lesser_right (by have := Hq.out; omega) (by rw [← Hq.out, ← Hp.out]; exact of_decide_eq_true hl)
          have hjn : Hid (q < n) := HLs.out.2.1
          have jL : q < L := by have := HL.out; have := hjn.out; omega
          have jK : Hid (k < q) := by have := Hp.out; have := Hq.out; exact (by omega : k < q)
          cases hlt : decide (T.lt (g Y q) (g Y k)) with
          | false =>
            have hle : Hid (le (g Y k) (g Y q)) := fun h => by simp [h] at hlt
            have hc2 : ∀ (w2 : World), Trees w2 B S c Y → Calls Try.prog 54 #[.slice (some ⟨S, 0, none⟩) L c, .int .i64 (q : Nat), .int .i64 (k : Nat)] w2 fun e w' => e = .returned (.bool false) ∧ Only S w2 w' ∧ Trees w' B S c Y := fun w2 hT2 => HLe.out q k false w2 jL kL hlt hT2
            clear hlt
            go_wp2_with fail
            (refine hc1.mono ?_; rintro e w2 ⟨rfl, hO2, hT2⟩; have hh2 : w2.cell? a = some (.slice (some ⟨S, 0, none⟩) L c) := by (rw [hO2.cell ha]; exact hhr))
            go_wp2_with fail
            (refine (hc2 _ hT2).mono ?_; rintro e w3 ⟨rfl, hO3, hT3⟩; have hh3 : w3.cell? a = some (.slice (some ⟨S, 0, none⟩) L c) := by (rw [hO3.cell ha]; assumption))
            go_wp2_with fail
            go_ret
            exact ⟨⟨_, rfl⟩, (hO.out.trans hO2).trans hO3, Y, hP.out, hF.out, down_done hDn.out HLs.out hle.out, hT3⟩
          | true =>
            have hle : Hid (T.lt (g Y q) (g Y k)) := (of_decide_eq_true hlt : T.lt (g Y q) (g Y k))
            have hc2 : ∀ (w2 : World), Trees w2 B S c Y → Calls Try.prog 54 #[.slice (some ⟨S, 0, none⟩) L c, .int .i64 (q : Nat), .int .i64 (k : Nat)] w2 fun e w' => e = .returned (.bool true) ∧ Only S w2 w' ∧ Trees w' B S c Y := fun w2 hT2 => HLe.out q k true w2 jL kL hlt hT2
            clear hlt
            go_wp2_with fail
            (refine hc1.mono ?_; rintro e w2 ⟨rfl, hO2, hT2⟩; have hh2 : w2.cell? a = some (.slice (some ⟨S, 0, none⟩) L c) := by (rw [hO2.cell ha]; exact hhr))
            go_wp2_with fail
            (refine (hc2 _ hT2).mono ?_; rintro e w3 ⟨rfl, hO3, hT3⟩; have hh3 : w3.cell? a = some (.slice (some ⟨S, 0, none⟩) L c) := by (rw [hO3.cell ha]; assumption))
            go_wp2_with fail
            refine (swap_row (c := c) hT3 hL.out k q kL jL).mono ?_
            rintro e w4 ⟨rfl, hO4, hT4⟩
            go_wp2
            go_roundw
            case measure => simp only [RowKit.intOf]; have := jK.out; have := hjn.out; have := HL.out; omega
            case rel => exact ⟨q, swp Y k q, rfl, by (have := hjn.out; have := HL.out; omega), down_step hDn.out (by have := HL.out; have := hL.out; omega) HLs.out hle.out, (swp_perm (by have := hL.out; omega) (by have := hL.out; omega)).trans hP.out, (fun u hu => by rw [swp_get (by have := hL.out; omega) (by have := hL.out; omega), if_neg (by have := hjn.out; omega), if_neg (by have := Hn.out; omega)]; exact hF.out u hu), (by rw [swp_length]; exact hL.out), hT4, ((hO.out.trans hO2).trans hO3).trans hO4⟩
        | false =>
          have hc1 := HLe.out q p false wr qL pL hl hT.out
          have HLs : Hid (Lesser Y n k p) := by rw [Hp.out]; exact lesser_left (by have := Hp.out; omega) (fun _ => by rw [← Hq.out, ← Hp.out]; exact fun h => by simp [h] at hl)
          have hjn : Hid (p < n) := HLs.out.2.1
          have jL : p < L := by have := HL.out; have := hjn.out; omega
          have jK : Hid (k < p) := by have := Hp.out; have := Hq.out; exact (by omega : k < p)
          cases hlt : decide (T.lt (g Y p) (g Y k)) with
          | false =>
            have hle : Hid (le (g Y k) (g Y p)) := fun h => by simp [h] at hlt
            have hc2 : ∀ (w2 : World), Trees w2 B S c Y → Calls Try.prog 54 #[.slice (some ⟨S, 0, none⟩) L c, .int .i64 (p : Nat), .int .i64 (k : Nat)] w2 fun e w' => e = .returned (.bool false) ∧ Only S w2 w' ∧ Trees w' B S c Y := fun w2 hT2 => HLe.out p k false w2 jL kL hlt hT2
            clear hlt
            go_wp2_with fail
            (refine hc1.mono ?_; rintro e w2 ⟨rfl, hO2, hT2⟩; have hh2 : w2.cell? a = some (.slice (some ⟨S, 0, none⟩) L c) := by (rw [hO2.cell ha]; exact hhr))
            go_wp2_with fail
            (refine (hc2 _ hT2).mono ?_; rintro e w3 ⟨rfl, hO3, hT3⟩; have hh3 : w3.cell? a = some (.slice (some ⟨S, 0, none⟩) L c) := by (rw [hO3.cell ha]; assumption))
            go_wp2_with fail
            go_ret
            exact ⟨⟨_, rfl⟩, (hO.out.trans hO2).trans hO3, Y, hP.out, hF.out, down_done hDn.out HLs.out hle.out, hT3⟩
          | true =>
            have hle : Hid (T.lt (g Y p) (g Y k)) := (of_decide_eq_true hlt : T.lt (g Y p) (g Y k))
            have hc2 : ∀ (w2 : World), Trees w2 B S c Y → Calls Try.prog 54 #[.slice (some ⟨S, 0, none⟩) L c, .int .i64 (p : Nat), .int .i64 (k : Nat)] w2 fun e w' => e = .returned (.bool true) ∧ Only S w2 w' ∧ Trees w' B S c Y := fun w2 hT2 => HLe.out p k true w2 jL kL hlt hT2
            clear hlt
            go_wp2_with fail
            (refine hc1.mono ?_; rintro e w2 ⟨rfl, hO2, hT2⟩; have hh2 : w2.cell? a = some (.slice (some ⟨S, 0, none⟩) L c) := by (rw [hO2.cell ha]; exact hhr))
            go_wp2_with fail
            (refine (hc2 _ hT2).mono ?_; rintro e w3 ⟨rfl, hO3, hT3⟩; have hh3 : w3.cell? a = some (.slice (some ⟨S, 0, none⟩) L c) := by (rw [hO3.cell ha]; assumption))
            go_wp2_with fail
            refine (swap_row (c := c) hT3 hL.out k p kL jL).mono ?_
            rintro e w4 ⟨rfl, hO4, hT4⟩
            go_wp2
            go_roundw
            case measure => simp only [RowKit.intOf]; have := jK.out; have := hjn.out; have := HL.out; omega
            case rel => exact ⟨p, swp Y k p, rfl, by (have := hjn.out; have := HL.out; omega), down_step hDn.out (by have := HL.out; have := hL.out; omega) HLs.out hle.out, (swp_perm (by have := hL.out; omega) (by have := hL.out; omega)).trans hP.out, (fun u hu => by rw [swp_get (by have := hL.out; omega) (by have := hL.out; omega), if_neg (by have := hjn.out; omega), if_neg (by have := Hn.out; omega)]; exact hF.out u hu), (by rw [swp_length]; exact hL.out), hT4, ((hO.out.trans hO2).trans hO3).trans hO4⟩
      · have z2 : (n : Int) ≤ (q : Int) := by omega
        have HLs : Hid (Lesser Y n k p) := by rw [Hp.out]; exact lesser_left (by have := Hp.out; omega) (fun h => absurd h (by have := Hq.out; omega))
        have hjn : Hid (p < n) := HLs.out.2.1
        have jL : p < L := by have := HL.out; have := hjn.out; omega
        have jK : Hid (k < p) := by have := Hp.out; have := Hq.out; exact (by omega : k < p)
        cases hlt : decide (T.lt (g Y p) (g Y k)) with
        | false =>
          have hle : Hid (le (g Y k) (g Y p)) := fun h => by simp [h] at hlt
          have hc2 : ∀ (w2 : World), Trees w2 B S c Y → Calls Try.prog 54 #[.slice (some ⟨S, 0, none⟩) L c, .int .i64 (p : Nat), .int .i64 (k : Nat)] w2 fun e w' => e = .returned (.bool false) ∧ Only S w2 w' ∧ Trees w' B S c Y := fun w2 hT2 => HLe.out p k false w2 jL kL hlt hT2
          clear hlt
          go_wp2_with fail
          (refine (hc2 _ hT.out).mono ?_; rintro e w3 ⟨rfl, hO3, hT3⟩; have hh3 : w3.cell? a = some (.slice (some ⟨S, 0, none⟩) L c) := by (rw [hO3.cell ha]; assumption))
          go_wp2_with fail
          go_ret
          exact ⟨⟨_, rfl⟩, hO.out.trans hO3, Y, hP.out, hF.out, down_done hDn.out HLs.out hle.out, hT3⟩
        | true =>
          have hle : Hid (T.lt (g Y p) (g Y k)) := (of_decide_eq_true hlt : T.lt (g Y p) (g Y k))
          have hc2 : ∀ (w2 : World), Trees w2 B S c Y → Calls Try.prog 54 #[.slice (some ⟨S, 0, none⟩) L c, .int .i64 (p : Nat), .int .i64 (k : Nat)] w2 fun e w' => e = .returned (.bool true) ∧ Only S w2 w' ∧ Trees w' B S c Y := fun w2 hT2 => HLe.out p k true w2 jL kL hlt hT2
          clear hlt
          go_wp2_with fail
          (refine (hc2 _ hT.out).mono ?_; rintro e w3 ⟨rfl, hO3, hT3⟩; have hh3 : w3.cell? a = some (.slice (some ⟨S, 0, none⟩) L c) := by (rw [hO3.cell ha]; assumption))
          go_wp2_with fail
          refine (swap_row (c := c) hT3 hL.out k p kL jL).mono ?_
          rintro e w4 ⟨rfl, hO4, hT4⟩
          go_wp2
          go_roundw
          case measure => simp only [RowKit.intOf]; have := jK.out; have := hjn.out; have := HL.out; omega
          case rel => exact ⟨p, swp Y k p, rfl, by (have := hjn.out; have := HL.out; omega), down_step hDn.out (by have := HL.out; have := hL.out; omega) HLs.out hle.out, (swp_perm (by have := hL.out; omega) (by have := hL.out; omega)).trans hP.out, (fun u hu => by rw [swp_get (by have := hL.out; omega) (by have := hL.out; omega), if_neg (by have := hjn.out; omega), if_neg (by have := Hn.out; omega)]; exact hF.out u hu), (by rw [swp_length]; exact hL.out), hT4, (hO.out.trans hO3).trans hO4⟩
end Go.Proofs.Ytengkkbiceennaa

