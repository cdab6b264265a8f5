/-
  RatioLists returns true for every list of floats.
-/
import Derived.Test.YtdjkilgcgkhcdaaDoorRo
import Derived.Test.YtdjkilgcgkhcdaaDoorOf
import Derived.LoopN
namespace Go.Proofs.YtdjkilgcgkhcdaaDoor
open Go.RowKit Go.Fl Go.Sort Go.Lib
/-- A row of n places, of a kind that has but one. -/
def RowAt (Rw : (Nat → Nat) → Prop) (n b : Nat) (w : World) : Prop := (0 < n → b < w.heap.size) ∧ ∃ R, Rw R ∧ ∀ i, i < n → w.cell? ⟨b, i, none⟩ = some (.int .i64 (R i : Nat))
theorem ints_rows {Rw : (Nat → Nat) → Prop} {n : Nat} (hn : n ≤ 300) (hR : ∀ R R', Rw R → Rw R' → ∀ i, i < n → R i = R' i) (b1 c1 b2 c2 : Nat) (w0 w1 w2 : World) (h1 : RowAt Rw n b1 w1) (hb : Below w1.heap.size w1 w2) (h2 : RowAt Rw n b2 w2) (S : Std w0 w1) :
    Calls Tryd.prog 20 #[.slice (some ⟨b1, 0, none⟩) n c1, .slice (some ⟨b2, 0, none⟩) n c2] w2 fun e w' => e = .returned (.bool true) ∧ Std w0 w' := by
  obtain ⟨l1, R1, r1, k1⟩ := h1
  obtain ⟨l2, R2, r2, k2⟩ := h2
  refine (ints_true n b1 0 c1 b2 0 c2 (fun i => (R1 i : Int)) w2 (by omega) (fun i hi => ?_) (fun i hi => ?_)).mono fun e w' ⟨h, q, hq⟩ => ⟨h, ?_⟩
  · rw [Nat.zero_add, hb.cell (p := ⟨b1, i, none⟩) (l1 (by omega))]; exact k1 i hi
  · rw [Nat.zero_add, hR R1 R2 r1 r2 i hi]; exact k2 i hi
  · subst hq
    have := S.next hb
    exact ⟨this.tab, below_drewN this.below q⟩
theorem rsame_gr {Gr : Nat → Prop} (hG : ∀ x, Gr x → x < 2 ^ 64) (hGG : ∀ x y, Gr x → Gr y → lessB x y = false) (x y : Nat) (hx : Gr x) (hy : Gr y) (w : World) :
    Calls Tryd.prog 13 #[.float .f64 x, .float .f64 y] w fun e w' => e = .returned (.bool true) ∧ w = w' :=
  (rsame_any x y w (hG x hx) (hG y hy)).mono fun _ _ h => ⟨by rw [h.1, hGG x y hx hy, hGG y x hy hx]; rfl, h.2⟩
set_option maxHeartbeats 1000000 in
set_option maxRecDepth 100000 in
theorem lists_core (a : Option Addr) (n cap : Nat) (hn : n ≤ 300) (Rw : (Nat → Nat) → Prop) (hR : ∀ R R', Rw R → Rw R' → ∀ i, i < n → R i = R' i) (Gr : Nat → Prop) (hG : ∀ x, Gr x → x < 2 ^ 64) (hGG : ∀ x y, Gr x → Gr y → lessB x y = false) (w : World) (S : Std w w)
    (g1 : ∀ w1, Std w w1 → Calls Tryd.prog 18 #[.slice a n cap] w1 fun e w' => ∃ x, e = .returned (.float .f64 x) ∧ Gr x ∧ Std w w')
    (g2 : ∀ w1, Std w w1 → Calls Tryd.prog 19 #[.slice a n cap] w1 fun e w' => ∃ x, e = .returned (.float .f64 x) ∧ Gr x ∧ Std w w')
    (o1 : ∀ w1, Std w w1 → Calls Tryd.prog 21 #[.slice a n cap] w1 fun e w' => ∃ b c, e = .returned (.slice (some ⟨b, 0, none⟩) n c) ∧ RowAt Rw n b w' ∧ Std w w')
    (o2 : ∀ w1, Std w w1 → Calls Tryd.prog 22 #[.slice a n cap] w1 fun e w' => ∃ b c, e = .returned (.slice (some ⟨b, 0, none⟩) n c) ∧ RowAt Rw n b w' ∧ Below w1.heap.size w1 w') :
    Calls Tryd.prog 4 #[.slice a n cap] w fun e w' => e = .returned (.bool true) ∧ Std w w' := by
  have zn : (n : Int) ≤ 300 := by omega
  have HR := Lib.hid hR
  have HG := Lib.hid hG
  have HGG := Lib.hid hGG
  have HN := Lib.hid hn
  clear hR hG hGG hn
  go_enter Tryd.func4, Tryd.ntmps4
  go_wp2_with (first
    | (go_at_call 9; ((with_reducible refine (fixed_at w _ (by assumption)).mono ?_); rintro e w' ⟨rfl, hS⟩))
    | (go_at_call 18; ((with_reducible refine (g1 _ (by assumption)).mono ?_); rintro e w' ⟨x, rfl, hx, hS⟩))
    | (go_at_call 19; ((with_reducible refine (g2 _ (by assumption)).mono ?_); rintro e w' ⟨y, rfl, hy, hS⟩))
    | (go_at_call 13; ((with_reducible refine (rsame_gr HG.out HGG.out _ _ hx hy _).mono ?_); rintro e w' ⟨rfl, rfl⟩))
    | (go_at_call 21; ((with_reducible refine (o1 _ (by assumption)).mono ?_); rintro e w' ⟨b1, c1, rfl, hr1, hS1⟩))
    | (go_at_call 22; ((with_reducible refine (o2 _ hS1).mono ?_); rintro e w' ⟨b2, c2, rfl, hr2, hb2⟩))
    | (go_at_call 20; ((with_reducible refine (ints_rows HN.out HR.out _ _ _ _ w _ _ hr1 hb2 hr2 hS1).mono ?_); rintro e w' ⟨rfl, hS⟩)))
  go_ret
  exact ⟨rfl, by assumption⟩
set_option maxHeartbeats 1000000 in
set_option maxRecDepth 100000 in
theorem lists_long (n : Nat) (hn : 300 < n) (hz : n ≤ 9223372036854775807) (a : Option Addr) (cap : Nat) (w : World) (S : Std w w) :
    Calls Tryd.prog 4 #[.slice a n cap] w fun e w' => e = .returned (.bool true) ∧ Std w w' := by
  have z1 : (300 : Int) < n := by omega
  have z2 : (n : Int) ≤ 9223372036854775807 := by omega
  go_enter Tryd.func4, Tryd.ntmps4
  go_wp2_with (go_at_call 9; ((with_reducible refine (fixed_at w _ (by assumption)).mono ?_); rintro e w' ⟨rfl, hS⟩))
  go_ret
  exact ⟨rfl, by assumption⟩
set_option maxHeartbeats 400000 in
theorem rgreatest_empty (a : Option Addr) (cap : Nat) (w : World) :
    Calls Tryd.prog 19 #[.slice a 0 cap] w fun e w' => ∃ z, e = .returned (.float .f64 z) ∧ z < 2 ^ 64 ∧ kindOf z = 6 ∧ Below w.heap.size w w' := by
  have d3 := fun w => run_float_none w 22 0 0 (by kernel_rfl)
  go_enter Tryd.func19, Tryd.ntmps19
  go_wp2
  refine wp_loop_rounds 1 ?_
  rw [rounds_succ]
  go_wp2
  go_ret
  exact ⟨_, rfl, (nanW_facts w 0 0).1, kindOf_none _ (nanW_facts w 0 0).2, (Below.refl _ _).drew⟩
set_option maxHeartbeats 400000 in
theorem rorder_empty (a : Option Addr) (cap : Nat) (w : World) :
    Calls Tryd.prog 22 #[.slice a 0 cap] w fun e w' => ∃ b, e = .returned (.slice (some ⟨b, 0, none⟩) 0 0) ∧ Below w.heap.size w w' := by
  go_enter Tryd.func22, Tryd.ntmps22
  go_wp2
  refine wp_loop_rounds 1 ?_
  rw [rounds_succ]
  go_wp2
  go_ret
  exact ⟨_, rfl, (Below.refl _ _).alloc (Nat.le_refl _) _⟩
/-- Two that are no numbers are alike. -/
theorem less_six {x y : Nat} (hx : x < 2 ^ 64) (hy : y < 2 ^ 64) (h1 : kindOf x = 6) (h2 : kindOf y = 6) : lessB x y = false := by
  have e1 := (kind_six x hx).1 h1
  have e2 := (kind_six y hy).1 h2
  unfold lessB key
  rw [e1, e2]; simp
theorem lists_empty (a : Option Addr) (cap : Nat) (w : World) (S : Std w w) :
    Calls Tryd.prog 4 #[.slice a 0 cap] w fun e w' => e = .returned (.bool true) ∧ Std w w' := by
  refine lists_core a 0 cap (by omega) (fun _ => True) (fun _ _ _ _ i hi => by omega) (fun x => x < 2 ^ 64 ∧ kindOf x = 6) (fun x h => h.1) (fun x y h1 h2 => less_six h1.1 h2.1 h1.2 h2.2) w S ?_ ?_ ?_ ?_
  · exact fun w1 h => (greatest_empty a cap w1).mono fun e w' ⟨he, hw⟩ => ⟨_, he, ⟨by decide, by kernel_rfl⟩, hw ▸ h⟩
  · exact fun w1 h => (rgreatest_empty a cap w1).mono fun e w' ⟨z, he, h1, h2, hb⟩ => ⟨_, he, ⟨h1, h2⟩, h.next hb⟩
  · exact fun w1 h => (order_empty a cap w1).mono fun e w' ⟨b, he, hb⟩ => ⟨b, 0, he, ⟨fun h => by omega, fun _ => 0, trivial, fun i hi => by omega⟩, h.next hb⟩
  · exact fun w1 h => (rorder_empty a cap w1).mono fun e w' ⟨b, he, hb⟩ => ⟨b, 0, he, ⟨fun h => by omega, fun _ => 0, trivial, fun i hi => by omega⟩, hb⟩
theorem lists_some (l : List Nat) [Inhabited (Fin l.length)] (hl0 : 0 < l.length) (hl : l.length ≤ 300) (blk off cap : Nat) (w : World) (S : Std w w) (hblk : blk < w.heap.size) (hF : FloatsAt w blk off l) :
    Calls Tryd.prog 4 #[.slice (some ⟨blk, off, none⟩) l.length cap] w fun e w' => e = .returned (.bool true) ∧ Std w w' := by
  have fl : ∀ w1, Std w w1 → FloatsAt w1 blk off l ∧ blk < w1.heap.size := fun w1 h =>
    ⟨⟨fun i hi => by rw [h.below.cell (p := ⟨blk, off + i, none⟩) hblk]; exact hF.cell i hi, hF.lt⟩, Nat.lt_of_lt_of_le hblk h.below.size⟩
  have hlt := getD_mem_lt hF.lt
  have hg := fold_lt l hlt
  refine lists_core (some ⟨blk, off, none⟩) l.length cap hl (fun R => ∃ o, Ins l o l.length ∧ ∀ i, R i = o.getD i 0) (fun R R' ⟨o, ho, hr⟩ ⟨o', ho', hr'⟩ i _ => by rw [hr, hr', ho.one ho'])
    (fun x => x < 2 ^ 64 ∧ (x = greatL l ∨ (kindOf x = 6 ∧ kindOf (greatL l) = 6))) (fun x h => h.1) (fun x y h1 h2 => ?_) w S ?_ ?_ ?_ ?_
  · obtain ⟨x1, x2⟩ := h1
    obtain ⟨y1, y2⟩ := h2
    rcases x2 with rfl | ⟨x2, x3⟩ <;> rcases y2 with rfl | ⟨y2, y3⟩
    · unfold lessB; simp
    · exact less_six x1 y1 y3 y2
    · exact less_six x1 y1 x2 x3
    · exact less_six x1 y1 x2 y2
  · exact fun w1 h => (greatest_any l blk off cap w1 (by omega) (fl w1 h).1).mono fun e w' ⟨he, hw⟩ => ⟨_, he, ⟨hg _ (by decide), .inl rfl⟩, hw ▸ h⟩
  · exact fun w1 h => (rgreatest_any l blk off cap w1 (by omega) (fl w1 h).1).mono fun e w' ⟨z, he, h1, h2, hb⟩ => ⟨_, he, ⟨hg _ h1, by
      rcases fold_nan l hlt z nanC h2 (by kernel_rfl) with h | h
      · exact .inl h
      · exact .inr h⟩, h.next hb⟩
  · exact fun w1 h => (order_q l hl0 (by omega) blk off cap w1 (fl w1 h).2 (fl w1 h).1).mono fun e w' ⟨r, bP, hr, hO⟩ => ⟨bP, l.length, hO.ret, ⟨fun _ => hO.old, fun i => (r.toList.map (·.val)).getD i 0, ⟨_, hr.ins, fun _ => rfl⟩, fun i hi => by
      have h1 := (hO.holds i (by rw [hr.size]; exact hi)).1
      rw [Nat.zero_add] at h1
      have hs := hr.size
      rw [h1, getElem!_pos r i (by omega)]
      simp only [List.getD_eq_getElem?_getD]
      rw [List.getElem?_eq_getElem (by simp; omega)]
      simp [encF]⟩, h.next hO.below⟩
  · exact fun w1 h => (rorder_any l hl blk off cap w1 (fl w1 h).2 (fl w1 h).1).mono fun e w' ⟨o, g, c, he, hH⟩ => ⟨g, c, he, ⟨fun _ => (hH.own.lt g rfl).2, fun i => o.getD i 0, ⟨o, hH.ins, fun _ => rfl⟩, fun i hi => hH.cell i hi⟩, hH.below⟩
/-- RatioLists, of whichever slice. -/
theorem lists_any (a : Option Addr) (l : List Nat) (cap : Nat) (w : World) (S : Std w w) (hm : l.length ≤ maxLen) (hl : ∀ i, l.getD i 0 < 2 ^ 64) (h : l.length = 0 ∨ ∃ x, a = some x ∧ ∀ i, i < l.length → w.cell? (x.add i) = some (.float .f64 (l.getD i 0))) :
    Calls Tryd.prog 4 #[.slice a l.length cap] w fun e w' => e = .returned (.bool true) ∧ Std w w' := by
  by_cases h0 : l.length = 0
  · rw [h0]; exact lists_empty a cap w S
  · by_cases h1 : 300 < l.length
    · exact lists_long l.length h1 (by unfold maxLen at hm; omega) a cap w S
    · rcases h with h | ⟨⟨blk, off, spot⟩, rfl, hc⟩
      · exact absurd h h0
      · have hc0 := hc 0 (by omega)
        have hspot : spot = none := by simpa [Addr.add] using World.cell?_spot hc0
        subst hspot
        haveI : Inhabited (Fin l.length) := ⟨⟨0, by omega⟩⟩
        have hb : blk < w.heap.size := Nat.lt_of_not_le fun hle => by
          have hnone : w.heap[blk]? = none := by simp; exact hle
          simp [Addr.add, World.cell?, hnone] at hc0
        exact lists_some l (by omega) (by omega) blk off cap w S hb ⟨fun i hi => by
          have := hc i hi
          by_cases e : i = 0
          · subst e; simpa [Addr.add] using this
          · simpa [Addr.add, e] using this, hl⟩
end Go.Proofs.YtdjkilgcgkhcdaaDoor
